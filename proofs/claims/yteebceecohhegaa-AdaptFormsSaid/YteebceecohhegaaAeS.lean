/- Nodes appended onto a row of one's own, whose pairs may be newer than the row; osierref1.SplitLeaf exactly, of trees with room for two nodes more. No condition: lemmas. -/
import Derived.Test.YteebceecohhegaaAeR
import Derived.Test.YteebceecohhegaaAeF
import Derived.Test.YteebceecohhegaaTsF
namespace Go.Proofs.Yteebceecohhegaa
open Go.RowKit
set_option linter.all false

theorem nds_post {w w' : World} {Qs : Nat → Prop} {v v' : Value} {M ms : List RN} (h : NRow w Qs v M) (hQ : ∀ k, Qs k → k < w.heap.size)
    (hp : ∀ m ∈ ms, Prs w m.a m.c m.n.p ∧ (m.n.p ≠ [] → ∀ b o sp, m.a = some ⟨b, o, sp⟩ → ¬ Qs b ∧ v.ownBlock ≠ some b))
    (hown : w'.ownsRow 0 47 6 v' (M.length + ms.length) (cellsN M ++ cellsN ms)) (hgr : w.grownBy w' v.ownBlock) (hk : ∀ k, v'.ownBlock = some k → v.ownBlock = some k ∨ w.heap.size ≤ k) :
    ∃ ao cap, v' = .slice ao (M.length + ms.length) cap ∧ cap ≤ maxLen ∧ M.length + ms.length ≤ cap ∧ NRow w' Qs v' (M ++ ms) ∧ Only (fun k => v.ownBlock = some k) w w' := by
  obtain ⟨ao, cap, rfl, h1, h2⟩ := row_form hown
  have hO : Only (fun k => v.ownBlock = some k) w w' := (Only.refl _ _).grown hgr (fun j hj _ => hj)
  refine ⟨ao, cap, rfl, h2, h1, ⟨by simpa [cellsN_app] using hown, fun k hk' hq => ?_, fun x hx => ?_⟩, hO⟩
  · rcases hk k hk' with e | e
    · exact h.own k e hq
    · have := hQ k hq; omega
  · have lt_of : ∀ (p : List Pr) (pa : Option Addr) (pc : Nat), Prs w pa pc p → p ≠ [] → ∀ b o sp, pa = some ⟨b, o, sp⟩ → b < w.heap.size := fun p pa pc hp hne b o sp e => by
      obtain ⟨q, l, rfl⟩ := List.exists_cons_of_ne_nil hne
      obtain ⟨b', o', e', c0, _⟩ := hp.2.2.1 0 q rfl
      rw [e] at e'; cases e'
      exact World.block_lt_of_cell? w _ c0
    have key : ∀ m : RN, Prs w m.a m.c m.n.p ∧ (m.n.p ≠ [] → ∀ b o sp, m.a = some ⟨b, o, sp⟩ → ¬ Qs b ∧ v.ownBlock ≠ some b) → Prs w' m.a m.c m.n.p ∧ (m.n.p ≠ [] → ∀ b o sp, m.a = some ⟨b, o, sp⟩ → ¬ Qs b ∧ (Value.slice ao (M.length + ms.length) cap).ownBlock ≠ some b) := fun m ⟨p1, p2⟩ => by
      refine ⟨prs_only p1 hO (fun hp b o sp e hh => (p2 hp b o sp e).2 hh), fun hp b o sp e => ⟨(p2 hp b o sp e).1, fun hh => ?_⟩⟩
      rcases hk b hh with e' | e'
      · exact (p2 hp b o sp e).2 e'
      · have := lt_of _ _ _ p1 hp b o sp e; omega
    rcases List.mem_append.1 hx with hx | hx
    · exact key x (h.prs x hx)
    · exact key x (hp x hx)
section
variable {w : World} {ops : Array Oper} {o : Oper} {a : Act} {K : Act → World → Prop} {Q : Exit → Act → World → Prop} {E : Prop}
/-- Nodes are appended, as a step of a region that draws its order. -/
theorem step_nds (hg : o.guard = none) (s x : Operand) (hop : o.op = Op.call { callee := Callee.builtin Builtin.append, args := #[s, x], argTypes := #[22, 22] })
    (Qs : Nat → Prop) (v : Value) (M ms : List RN) (hs : a.eval s = v) (h : NRow w Qs v M) (hQ : ∀ k, Qs k → k < w.heap.size)
    (hp : ∀ m ∈ ms, Prs w m.a m.c m.n.p ∧ (m.n.p ≠ [] → ∀ b o sp, m.a = some ⟨b, o, sp⟩ → ¬ Qs b ∧ v.ownBlock ≠ some b))
    (xv : Value) (hx : a.eval x = xv) (hsrc : Source w xv ms.length (cellsN ms)) (hl : M.length + ms.length ≤ 100000) (n : Nat) (hn : M.length + ms.length = n)
    (H : ∀ ao cap w', cap ≤ maxLen → n ≤ cap → NRow w' Qs (.slice ao n cap) (M ++ ms) → Only (fun k => v.ownBlock = some k) w w' → K (a.put o.dst (.slice ao n cap)) w') :
    if Region.wanted o (yielded ops a.tmps) = true then Oper.wp Try.prog o a w K Q else E := by
  subst hn
  obtain ⟨i, hi, hz, hs1, hs2⟩ := info_parts infoNode
  refine step_own_append hg s x 22 hop 47 i _ 6 64 Try.underlying22 hi hz hs1 hs2 rfl (by decide) v M.length (cellsN M) hs h.row xv ms.length (cellsN ms) hx hsrc (cellsN_len ms) (fun u hu => cellsN_one ms u hu) (by unfold maxLen; omega) (by omega) ?_
  intro v' w' hown hgr hk
  obtain ⟨ao, cap, rfl, h1, h2, h3, h4⟩ := nds_post h hQ hp hown hgr hk
  exact H ao cap w' h1 h2 h3 h4
end
set_option maxRecDepth 100000 in
set_option maxHeartbeats 6400000 in
theorem rspl_no (t : Int) (a : Option Addr) (cap : Nat) (N : List Nd) (y : Int) (w : World) (hN : Ns w a cap N) (hsm : Small N) (h : ¬ ∃ s i, LfAt N t y s i) :
    Calls Try.prog 11 #[trv t a cap N, .int .i64 y] w fun e w' => e = .returned (.tuple #[.agg #[.int .i64 0, .slice none 0 0], .bool false]) ∧ Below w.heap.size w w' := by
  have b1 : Below w.heap.size w ((w.alloc (.cells #[.int .i64 t, .slice a N.length cap] 24)).alloc (.cells #[.int .i64 0, .slice none 0 0] 24)) := bel1 (al1 _) _
  have ci := rlf_any t a cap N y _ (hN.keep b1) hsm false ⟨fun e => (by cases e), fun e => absurd e h⟩
  have R0 := Lib.hid (show Bk ((w.alloc (.cells #[.int .i64 t, .slice a N.length cap] 24)).alloc (.cells #[.int .i64 0, .slice none 0 0] 24)) (w.heap.size + 1) [.int .i64 0, .slice none 0 0] from by
    have h := Bk.new (w.alloc (.cells #[.int .i64 t, .slice a N.length cap] 24)) #[.int .i64 0, .slice none 0 0] 24
    simp only [World.size_alloc] at h; exact h)
  have HB := Lib.hid b1
  unfold trv at ci ⊢
  clear b1 hN h hsm
  go_enter Try.func11, Try.ntmps11
  go_wp2_with (go_at_call 32; ((with_reducible refine ci.mono ?_); clear ci; rintro e w3 ⟨rfl, hb3⟩; have R1 := Lib.hid (R0.out.keep hb3); have HB3 := Lib.hid (bel2 HB.out hb3); clear hb3; have r0 := R1.out.at_ 0 _ rfl; have r1 := R1.out.at_ 1 _ rfl; have f0 := R1.out.fr 0; have f1 := R1.out.fr 1))
  refine bodyPost_ret (v := .tuple #[.agg #[.int .i64 0, .slice none 0 0], .bool false]) (by simp [results, Try.results11, go_sem, r0, r1]) rfl ⟨rfl, ?_⟩
  repeat' (first | refine Below.setCell ?_ (by dsimp only; omega) _ | exact HB3.out)

set_option maxRecDepth 100000 in
set_option maxHeartbeats 6400000 in
theorem rspl_few (t : Int) (a : Option Addr) (cap : Nat) (N : List Nd) (s : Sh) (i : Nat) (w : World) (hN : Ns w a cap N) (hsm : Small N) (h : LfAt N t (i : Int) s i) (h2 : ¬ 2 ≤ (nd N i).p.length) :
    Calls Try.prog 11 #[trv t a cap N, .int .i64 (i : Int)] w fun e w' => e = .returned (.tuple #[.agg #[.int .i64 0, .slice none 0 0], .bool false]) ∧ Below w.heap.size w w' := by
  have b1 : Below w.heap.size w ((w.alloc (.cells #[.int .i64 t, .slice a N.length cap] 24)).alloc (.cells #[.int .i64 0, .slice none 0 0] 24)) := bel1 (al1 _) _
  have ci := rlf_any t a cap N (i : Int) _ (hN.keep b1) hsm true ⟨fun _ => ⟨s, i, h⟩, fun _ => rfl⟩
  have B0 := Lib.hid (show Bk ((w.alloc (.cells #[.int .i64 t, .slice a N.length cap] 24)).alloc (.cells #[.int .i64 0, .slice none 0 0] 24)) w.heap.size [.int .i64 t, .slice a N.length cap] from (Bk.new w #[.int .i64 t, .slice a N.length cap] 24).past _)
  have R0 := Lib.hid (show Bk ((w.alloc (.cells #[.int .i64 t, .slice a N.length cap] 24)).alloc (.cells #[.int .i64 0, .slice none 0 0] 24)) (w.heap.size + 1) [.int .i64 0, .slice none 0 0] from by
    have h := Bk.new (w.alloc (.cells #[.int .i64 t, .slice a N.length cap] 24)) #[.int .i64 0, .slice none 0 0] 24
    simp only [World.size_alloc] at h; exact h)
  have HB := Lib.hid b1
  have hil := h.1.hg.lt i (lvs_pre s i h.2.2)
  have hc1 := hN.1
  have hc2 := hN.2.1
  unfold maxLen at hc2
  have hi0 : (0 : Int) ≤ (i : Int) := by omega
  have hi1 : (i : Int) < (N.length : Int) := by omega
  have HN := Lib.hid hN
  obtain ⟨b, o, pa, pc, rfl, hxi⟩ := hN.2.2 i _ (nd_get hil)
  have HE := Lib.hid hxi.c4
  generalize (nd N i).p = p at *
  have hlt : (p.length : Int) < 2 := by omega
  unfold trv at ci ⊢
  clear b1 hN h hsm hxi h2
  go_enter Try.func11, Try.ntmps11
  go_wp2_with (go_at_call 32; ((with_reducible refine ci.mono ?_); clear ci; rintro e w3 ⟨rfl, hb3⟩; have R1 := Lib.hid (R0.out.keep hb3); have B1 := Lib.hid (B0.out.keep hb3); have HB3 := Lib.hid (bel2 HB.out hb3); clear hb3; have k0 := B1.out.at_ 0 _ rfl; have k1 := B1.out.at_ 1 _ rfl; have e4 := kc HB3.out HE.out; have r0 := R1.out.at_ 0 _ rfl; have r1 := R1.out.at_ 1 _ rfl; have f0 := R1.out.fr 0; have f1 := R1.out.fr 1))
  refine bodyPost_ret (v := .tuple #[.agg #[.int .i64 0, .slice none 0 0], .bool false]) (by simp [results, Try.results11, go_sem, r0, r1]) rfl ⟨rfl, ?_⟩
  repeat' (first | refine Below.setCell ?_ (by dsimp only; omega) _ | exact HB3.out)
set_option maxRecDepth 100000 in
set_option maxHeartbeats 6400000 in
theorem rspl_yes (t : Int) (a : Option Addr) (cap : Nat) (N : List Nd) (s : Sh) (i : Nat) (w : World) (hN : Ns w a cap N) (hsm : Small N) (h : LfAt N t (i : Int) s i) (h2 : 2 ≤ (nd N i).p.length) (hle : N.length + 2 ≤ 2000) :
    Calls Try.prog 11 #[trv t a cap N, .int .i64 (i : Int)] w (PlIs w ((splA N i s).lay 0)) := by
  have b1 : Below w.heap.size w ((w.alloc (.cells #[.int .i64 t, .slice a N.length cap] 24)).alloc (.cells #[.int .i64 0, .slice none 0 0] 24)) := bel1 (al1 _) _
  have ci := rlf_any t a cap N (i : Int) _ (hN.keep b1) hsm true ⟨fun _ => ⟨s, i, h⟩, fun _ => rfl⟩
  have B0 := Lib.hid (show Bk ((w.alloc (.cells #[.int .i64 t, .slice a N.length cap] 24)).alloc (.cells #[.int .i64 0, .slice none 0 0] 24)) w.heap.size [.int .i64 t, .slice a N.length cap] from (Bk.new w #[.int .i64 t, .slice a N.length cap] 24).past _)
  have R0 := Lib.hid (show Rq ((w.alloc (.cells #[.int .i64 t, .slice a N.length cap] 24)).alloc (.cells #[.int .i64 0, .slice none 0 0] 24)) (w.heap.size + 1) from by
    have h := Rq.new (w.alloc (.cells #[.int .i64 t, .slice a N.length cap] 24))
    simp only [World.size_alloc] at h; exact h)
  have HB := Lib.hid b1
  have hil := h.1.hg.lt i (lvs_pre s i h.2.2)
  have hc1 := hN.1
  have hc2 := hN.2.1
  unfold maxLen at hc2
  have hi0 : (0 : Int) ≤ (i : Int) := by omega
  have hi1 : (i : Int) < (N.length : Int) := by omega
  have HN := Lib.hid hN
  obtain ⟨b, o, pa, pc, rfl, hxi⟩ := hN.2.2 i _ (nd_get hil)
  have HE := Lib.hid hxi.c4
  have HP := Lib.hid hxi.ps
  have hpl := hsm.at (nd_get hil)
  have hT := spl_tr h.1 h.2.2 h2 hle
  unfold splN at hT
  obtain ⟨p, hpe⟩ : ∃ q, (nd N i).p = q := ⟨_, rfl⟩
  have HPE := Lib.hid hpe
  rw [hpe] at HE HP hpl h2 hT
  obtain ⟨q, hq⟩ : ∃ q, p[p.length / 2]? = some q := ⟨_, List.getElem?_eq_getElem (by omega)⟩
  have hlt : ¬ (p.length : Int) < 2 := by omega
  have hw2 : wrap64 ((N.length : Int) + 2) = (N.length : Int) + 2 := by unfold wrap64; omega
  have hgt : ¬ (N.length : Int) + 2 > 2000 := by omega
  have hgt2 : ¬ 2000 < (N.length : Int) + 2 := by omega
  have hgd : decide (2000 < (N.length : Int) + 2) = false := decide_eq_false hgt2
  have cct := fun W (hb : Below w.heap.size w W) => copytree_any t (some ⟨b, o, none⟩) cap N W (HN.out.keep hb) hsm
  have HNI := Lib.hid (nd_get hil)
  have hpc1 := HP.out.1
  have hpc2 := HP.out.2.1
  unfold maxLen at hpc2
  have hdiv : ((p.length : Nat) : Int).tdiv 2 = ((p.length / 2 : Nat) : Int) := by rw [Int.tdiv_eq_ediv_of_nonneg (by omega)]; rfl
  obtain ⟨mh, hm⟩ : ∃ mh, p.length / 2 = mh := ⟨_, rfl⟩
  rw [hm] at hdiv hq
  have HM := Lib.hid hm
  have hm1 : mh < p.length := by omega
  have hm2 : ¬ pc = mh := by omega
  have hm3 : mh ≤ pc := by omega
  have hm4 : mh ≤ p.length := by omega
  have hm5 : (mh : Int) ≤ (pc : Int) := by omega
  have hm6 : (mh : Int) ≤ (p.length : Int) := by omega
  have hm7 : (0 : Int) ≤ (mh : Int) := by omega
  unfold trv at ci cct ⊢
  unfold CpT at cct
  rw [hm] at hT
  have HT := Lib.hid hT
  have HPL := Lib.hid hpl
  have HS := Lib.hid hsm
  clear b1 hN h hsm hxi h2 hm hpl hpe
  clear hT
  go_enter Try.func11, Try.ntmps11
  go_upto_region 3 with (go_at_call 32; ((with_reducible refine ci.mono ?_); clear ci; rintro e w3 ⟨rfl, hb3⟩; have K3 := Lib.hid (show KS w t (some ⟨b, o, none⟩) cap N w3 from ⟨B0.out.keep hb3, R0.out.keep hb3, bel2 HB.out hb3⟩); clear hb3; have k0 := K3.out.g.at_ 0 _ rfl; have k1 := K3.out.g.at_ 1 _ rfl; have e4 := kc K3.out.b HE.out))
  go_upto_region 4 with (go_at_call 33; ((with_reducible refine (cct _ K3.out.b).mono ?_); clear cct k0 k1 e4; rintro e w4 ⟨ao, c4, M, rfl, hm4, hr4, hb4⟩; have C4 := Lib.hid (And.intro hm4 (And.intro hr4 hb4)); clear hm4 hr4 hb4))
  obtain ⟨m, hm, hmn⟩ : ∃ m, M[i]? = some m ∧ m.n = nd N i := by
    have h : (M.map (fun m => m.n))[i]? = some (nd N i) := by rw [C4.out.1]; exact HNI.out
    rw [List.getElem?_map] at h
    exact Option.map_eq_some_iff.1 h
  have hmp : m.n.p = p := by rw [hmn]; exact HPE.out
  obtain ⟨gq, rfl, -, hna, -⟩ := C4.out.2.1.at hm
  have hgl : gq < w4.heap.size := World.block_lt_of_cell? w4 _ hna.c0
  have hgo : ¬ gq < w3.heap.size := C4.out.2.1.own gq rfl
  have U := Lib.hid (Tq.new w4 t (some ⟨gq, 0, none⟩) N.length c4)
  have R4 := Lib.hid ((C4.out.2.1.sub (Q' := fun k => k < w3.heap.size ∨ k = w4.heap.size) (fun j hj hq => hq.elim id (fun e => absurd hj (by omega)))).keep (al1 (.cells #[.int .i64 t, .slice (some ⟨gq, 0, none⟩) N.length c4] 24)))
  have K4 := Lib.hid ((K3.out.keep C4.out.2.2).keep (al1 (.cells #[.int .i64 t, .slice (some ⟨gq, 0, none⟩) N.length c4] 24)))
  have hna4 := hna.keep (al1 (.cells #[.int .i64 t, .slice (some ⟨gq, 0, none⟩) N.length c4] 24))
  have HQ := Lib.hid (show w.heap.size + 1 < w3.heap.size ∧ w3.heap.size ≤ w4.heap.size ∧ gq < w4.heap.size ∧ ¬ gq < w3.heap.size from ⟨K3.out.r.lt, C4.out.2.2.size, hgl, hgo⟩)
  have HMM := Lib.hid (show M.map (fun m => m.n) = N ∧ M.length = N.length from ⟨C4.out.1, by have := congrArg List.length C4.out.1; simpa using this⟩)
  have hr4f := C4.out.2.1.form
  obtain ⟨_, _, e', hcp1, hcp2⟩ := hr4f
  injection e' with e1 e2 e3
  subst e3
  rw [HMM.out.2] at hcp1
  clear e1 e2 hgl hgo hna
  have HU4 := Lib.hid (show w4.heap.size < (w4.alloc (.cells #[.int .i64 t, .slice (some ⟨gq, 0, none⟩) N.length c4] 24)).heap.size from by simp)
  generalize (World.alloc w4 _ : World) = W4 at U R4 K4 hna4 HU4 ⊢
  generalize w4.heap.size = q6 at U HQ HU4 R4 ⊢
  have x4 := hna4.c4
  have hps := hna4.ps
  rw [hmp] at x4 hps
  obtain ⟨pa, po, epa, q0, q1⟩ := hps.2.2.1 _ q hq
  rw [epa] at x4 hps
  have HEPA := Lib.hid epa
  generalize m.c = pc4 at x4 hps
  have hpc1 := hps.1
  have hpc2 := hps.2.1
  unfold maxLen at hpc2 hcp2
  have hm2' : ¬ pc4 = mh := by omega
  have hm3' : mh ≤ pc4 := by omega
  have hm5' : (mh : Int) ≤ (pc4 : Int) := by omega
  have HP4 := Lib.hid hps
  have HPN := Lib.hid (show gq ≠ pa from fun e => ((R4.out.prs m (List.mem_of_getElem? hm)).2 (by rw [hmp]; intro e0; rw [e0] at hq; simp at hq) pa po none HEPA.out).2 (by rw [← e]; rfl))
  have HQ0 := Lib.hid q0
  have u0 := U.out.c0
  have u1 := U.out.c1
  have HMEM := Lib.hid (show ∃ z ∈ M, z.a = some ⟨pa, po, none⟩ ∧ z.n.p ≠ [] from ⟨m, List.mem_of_getElem? hm, HEPA.out, by rw [hmp]; intro e0; rw [e0] at hq; simp at hq⟩)
  clear hna4 hps q0 q1 hm hmn hmp epa
  have HTL := Lib.hid (show (p.take mh).length = mh ∧ (p.drop mh).length = p.length - mh from ⟨by rw [List.length_take]; omega, List.length_drop ..⟩)
  have HMH := Lib.hid (And.intro hm4 hm1)
  have KG := Lib.hid (show w.heap.size + 1 < gq from by have := HQ.out; omega)
  go_upto_region 7 with (fail)
  go_cut [9] from 46 to 60 (fun v9 wx => ∃ (a7 : Option Addr) (c7 : Nat) (M7 : List RN), v9 = .int .i64 (N.length : Int) ∧ KS w t (some ⟨b, o, none⟩) cap N wx ∧ Tq wx q6 t a7 (N.length + 2) c7 ∧ NRow wx (fun k => k < w3.heap.size ∨ k = q6) (.slice a7 (N.length + 2) c7) M7 ∧ Prs wx (some ⟨pa, po, none⟩) pc4 p ∧ M7.map (fun m => m.n) = N ++ [⟨false, 0, 0, 0, p.take mh, 0⟩, ⟨false, 0, 0, 0, p.drop mh, 0⟩] ∧ ∃ z ∈ M7, z.a = some ⟨pa, po, none⟩ ∧ z.n.p ≠ [])
  case first =>
    refine wp_region_held_drew (S := (fun W => KS w t (some ⟨b, o, none⟩) cap N W)) (by kernel_rfl) (by first | exact K4.out | exact K4.out.keep (Below.refl _ _).drew) (fun hHeld => ?_)
    refine wpAnyH_take (i := 0) (v := ?_) rfl (by kernel_rfl) (by kernel_rfl) (by kernel_rfl) (fun _ _ _ h => h) (Or.inl ⟨by rfl, ?_⟩) hHeld ?_
    rotate_left
    · (intro wS hSw; (try dsimp only at hSw); (try go_split_ands); go_simp; try with_reducible rfl)
    try simp only [List.getElem_toArray, List.getElem_cons_succ, List.getElem_cons_zero, Act.put, List.setIfInBounds_toArray, List.set_cons_zero, List.set_cons_succ]
    refine wpAnyH_take (i := 2) (v := ?_) rfl (by kernel_rfl) (by kernel_rfl) (by kernel_rfl) (fun _ _ _ h => h) (Or.inl ⟨by rfl, ?_⟩) hHeld ?_
    rotate_left
    · (intro wS hSw; (try dsimp only at hSw); (try go_split_ands); go_simp; try with_reducible rfl)
    try simp only [List.getElem_toArray, List.getElem_cons_succ, List.getElem_cons_zero, Act.put, List.setIfInBounds_toArray, List.set_cons_zero, List.set_cons_succ]
    refine wpAnyH_take (i := 3) (v := ?_) rfl (by kernel_rfl) (by kernel_rfl) (by kernel_rfl) (fun _ _ _ h => h) (Or.inl ⟨by rfl, ?_⟩) hHeld ?_
    rotate_left
    · (intro wS hSw; (try dsimp only at hSw); (try go_split_ands); go_simp; try with_reducible rfl)
    try simp only [List.getElem_toArray, List.getElem_cons_succ, List.getElem_cons_zero, Act.put, List.setIfInBounds_toArray, List.set_cons_zero, List.set_cons_succ]
    refine wpAnyH_take (i := 4) (v := ?_) rfl (by kernel_rfl) (by kernel_rfl) (by kernel_rfl) (fun _ _ _ h => h) (Or.inl ⟨by rfl, ?_⟩) hHeld ?_
    rotate_left
    · (intro wS hSw; (try dsimp only at hSw); (try go_split_ands); go_simp; try with_reducible rfl)
    try simp only [List.getElem_toArray, List.getElem_cons_succ, List.getElem_cons_zero, Act.put, List.setIfInBounds_toArray, List.set_cons_zero, List.set_cons_succ]
    refine wpAnyH_take (i := 7) (v := ?_) rfl (by kernel_rfl) (by kernel_rfl) (by kernel_rfl) (fun _ _ _ h => h) (Or.inl ⟨by rfl, ?_⟩) hHeld ?_
    rotate_left
    · (intro wS hSw; (try dsimp only at hSw); (try go_split_ands); go_simp; try with_reducible rfl)
    try simp only [List.getElem_toArray, List.getElem_cons_succ, List.getElem_cons_zero, Act.put, List.setIfInBounds_toArray, List.set_cons_zero, List.set_cons_succ]
    refine wpAnyH_take (i := 8) (v := ?_) rfl (by kernel_rfl) (by kernel_rfl) (by kernel_rfl) (fun _ _ _ h => h) (Or.inl ⟨by rfl, ?_⟩) hHeld ?_
    rotate_left
    · (intro wS hSw; (try dsimp only at hSw); (try go_split_ands); go_simp; try with_reducible rfl)
    try simp only [List.getElem_toArray, List.getElem_cons_succ, List.getElem_cons_zero, Act.put, List.setIfInBounds_toArray, List.set_cons_zero, List.set_cons_succ]
    refine wpAnyH_take (i := 9) (v := ?_) rfl (by kernel_rfl) (by kernel_rfl) (by kernel_rfl) (fun _ _ _ h => h) (Or.inl ⟨by rfl, ?_⟩) hHeld ?_
    rotate_left
    · (intro wS hSw; (try dsimp only at hSw); (try go_split_ands); go_simp; try with_reducible rfl)
    try simp only [List.getElem_toArray, List.getElem_cons_succ, List.getElem_cons_zero, Act.put, List.setIfInBounds_toArray, List.set_cons_zero, List.set_cons_succ]
    refine wpAnyH_ready (rs := [1, 5]) (by kernel_rfl) (by simp) ?_
    refine AllReadyH.cons rfl (fun K hK => ?_) (AllReadyH.cons rfl (fun K hK => ?_) AllReadyH.nil)
    · skip
      go_simp
      refine hK.out _ _ ?_ (fun hNext => ?_)
      · exact hHeld
      clear hK K hHeld
      have hHeld := hNext
      clear hNext
      try simp only [List.getElem_toArray, List.getElem_cons_succ, List.getElem_cons_zero, Act.put, List.setIfInBounds_toArray, List.set_cons_zero, List.set_cons_succ]
      refine wpAnyH_ready (rs := [5]) (by kernel_rfl) (by simp) ?_
      refine AllReadyH.cons rfl (fun K hK => ?_) AllReadyH.nil
      refine step_app rfl (.const (.slice none 0 0)) (.tmp 50) rfl (fun j => j < W4.heap.size) (.slice none 0 0) [] (p.take mh) rfl (PRow.nil _ _) (fun k hk => hk) _ rfl (src_prs (prs_takeI (HP4.out.below (Below.refl _ _).drew) mh HMH.out.1) HTL.out.1.symm) (by have := HPL.out; have := HTL.out.1; simp only [List.length_nil]; omega) mh (by have := HTL.out.1; simp only [List.length_nil]; omega) (p.take mh) rfl ?_
      intro a5 c5 w5 hm5x hc5x hR5 hO5
      have B5 := Lib.hid (only_lt ((Below.refl W4.heap.size W4).drew) hO5)
      have R5 := Lib.hid hR5
      have u1 := (U.out.keep B5.out).c1
      clear hR5 hO5 hm5x hc5x
      refine hK.out _ _ ?_ (fun hNext => ?_)
      · exact K4.out.keep B5.out
      clear hK K hHeld
      have hHeld := hNext
      clear hNext
      try simp only [List.getElem_toArray, List.getElem_cons_succ, List.getElem_cons_zero, Act.put, List.setIfInBounds_toArray, List.set_cons_zero, List.set_cons_succ]
      refine wpAnyH_take (i := 6) (v := ?_) rfl (by kernel_rfl) (by kernel_rfl) (by kernel_rfl) (fun _ _ _ h => h) (Or.inl ⟨by rfl, ?_⟩) hHeld ?_
      rotate_left
      · (intro wS hSw; (try dsimp only at hSw); (try go_split_ands); go_simp; try with_reducible rfl)
      try simp only [List.getElem_toArray, List.getElem_cons_succ, List.getElem_cons_zero, Act.put, List.setIfInBounds_toArray, List.set_cons_zero, List.set_cons_succ]
      refine wpAnyH_ready (rs := [10]) (by kernel_rfl) (by simp) ?_
      refine AllReadyH.cons rfl (fun K hK => ?_) AllReadyH.nil
      refine step_app rfl (.const (.slice none 0 0)) (.tmp 55) rfl (fun j => j < w5.heap.size) (.slice none 0 0) [] (p.drop mh) rfl (PRow.nil _ _) (fun k hk => hk) _ rfl (src_prs (prs_dropI (HP4.out.below B5.out) mh HMH.out.1) HTL.out.2.symm) (by have := HPL.out; have := HTL.out.2; simp only [List.length_nil]; omega) (p.length - mh) (by have := HTL.out.2; simp only [List.length_nil]; omega) (p.drop mh) rfl ?_
      intro a6 c6 w6 hm6x hc6x hR6 hO6
      have B6 := Lib.hid (show Below w5.heap.size w5 w6 from only_lt (Below.refl _ _) hO6)
      have R6 := Lib.hid hR6
      have u1 := (U.out.keep (bel2 B5.out B6.out)).c1
      clear hR6 hO6 hm6x hc6x
      refine hK.out _ _ ?_ (fun hNext => ?_)
      · exact (K4.out.keep B5.out).keep B6.out
      clear hK K hHeld
      have hHeld := hNext
      clear hNext
      try simp only [List.getElem_toArray, List.getElem_cons_succ, List.getElem_cons_zero, Act.put, List.setIfInBounds_toArray, List.set_cons_zero, List.set_cons_succ]
      refine wpAnyH_take (i := 11) (v := ?_) rfl (by kernel_rfl) (by kernel_rfl) (by kernel_rfl) (fun _ _ _ h => h) (Or.inl ⟨by rfl, ?_⟩) hHeld ?_
      rotate_left
      · (intro wS hSw; (try dsimp only at hSw); (try go_split_ands); go_simp; try with_reducible rfl)
      try simp only [List.getElem_toArray, List.getElem_cons_succ, List.getElem_cons_zero, Act.put, List.setIfInBounds_toArray, List.set_cons_zero, List.set_cons_succ]
      refine wpAnyH_ready (rs := [12]) (by kernel_rfl) (by simp) ?_
      refine AllReadyH.cons rfl (fun K hK => ?_) AllReadyH.nil
      go_simp
      refine hK.out _ _ ?_ (fun hNext => ?_)
      · exact hHeld.keep (al1 _)
      have B12 := Lib.hid (bel1 (bel2 B5.out B6.out) (.cells #[.bool false, .int .i64 0, .int .i64 0, .int .i64 0, .slice a5 mh c5, .int .i64 0, .bool false, .int .i64 0, .int .i64 0, .int .i64 0, .slice a6 (p.length - mh) c6, .int .i64 0] 47))
      have BN := Lib.hid (Bk.new w6 #[.bool false, .int .i64 0, .int .i64 0, .int .i64 0, .slice a5 mh c5, .int .i64 0, .bool false, .int .i64 0, .int .i64 0, .int .i64 0, .slice a6 (p.length - mh) c6, .int .i64 0] 47)
      have K12 := Lib.hid (K4.out.keep B12.out)
      have u1 := (U.out.keep B12.out).c1
      have HQS := Lib.hid (show ∀ j, (j < w3.heap.size ∨ j = q6) → j < (w6.alloc (.cells #[.bool false, .int .i64 0, .int .i64 0, .int .i64 0, .slice a5 mh c5, .int .i64 0, .bool false, .int .i64 0, .int .i64 0, .int .i64 0, .slice a6 (p.length - mh) c6, .int .i64 0] 47)).heap.size from fun j hj => by have h1 := HQ.out; have h2 := HU4.out; have h3 := B12.out.size; omega)
      have HPM := Lib.hid (show ∀ z ∈ [(⟨⟨false, 0, 0, 0, p.take mh, 0⟩, a5, c5⟩ : RN), ⟨⟨false, 0, 0, 0, p.drop mh, 0⟩, a6, c6⟩], Prs (w6.alloc (.cells #[.bool false, .int .i64 0, .int .i64 0, .int .i64 0, .slice a5 mh c5, .int .i64 0, .bool false, .int .i64 0, .int .i64 0, .int .i64 0, .slice a6 (p.length - mh) c6, .int .i64 0] 47)) z.a z.c z.n.p ∧ (z.n.p ≠ [] → ∀ bb oo sp, z.a = some ⟨bb, oo, sp⟩ → ¬ (bb < w3.heap.size ∨ bb = q6) ∧ (Value.slice (some ⟨gq, 0, none⟩) N.length c4).ownBlock ≠ some bb) from fun z hz => by
        have h1 := HQ.out
        have h2 := HU4.out
        have h3 := B5.out.size
        simp at hz
        rcases hz with rfl | rfl
        · refine ⟨((R5.out.prs HTL.out.1.symm).below B6.out).below (al1 _), fun _ bb oo sp e => ?_⟩
          have h4 : ¬ bb < W4.heap.size := R5.out.av bb (by rw [show a5 = some ⟨bb, oo, sp⟩ from e]; rfl)
          exact ⟨by omega, fun e2 => by have : gq = bb := Option.some.inj (show some gq = some bb from e2); omega⟩
        · refine ⟨(R6.out.prs HTL.out.2.symm).below (al1 _), fun _ bb oo sp e => ?_⟩
          have h4 : ¬ bb < w5.heap.size := R6.out.av bb (by rw [show a6 = some ⟨bb, oo, sp⟩ from e]; rfl)
          exact ⟨by omega, fun e2 => by have : gq = bb := Option.some.inj (show some gq = some bb from e2); omega⟩)
      have HSRC := Lib.hid (show Source (w6.alloc (.cells #[.bool false, .int .i64 0, .int .i64 0, .int .i64 0, .slice a5 mh c5, .int .i64 0, .bool false, .int .i64 0, .int .i64 0, .int .i64 0, .slice a6 (p.length - mh) c6, .int .i64 0] 47)) (.slice (some ⟨w6.heap.size, 0, none⟩) 2 2) [(⟨⟨false, 0, 0, 0, p.take mh, 0⟩, a5, c5⟩ : RN), ⟨⟨false, 0, 0, 0, p.drop mh, 0⟩, a6, c6⟩].length (cellsN [(⟨⟨false, 0, 0, 0, p.take mh, 0⟩, a5, c5⟩ : RN), ⟨⟨false, 0, 0, 0, p.drop mh, 0⟩, a6, c6⟩]) from .inr ⟨_, _, rfl, fun j u hj => by
        rw [add_lit, Nat.zero_add]
        refine BN.out.at_ j u ?_
        simp only [cellsN, cellN, HTL.out.1, HTL.out.2, List.append_nil, List.cons_append, List.nil_append] at hj
        exact hj⟩)
      clear hK K hHeld
      have hHeld := hNext
      clear hNext
      try simp only [List.getElem_toArray, List.getElem_cons_succ, List.getElem_cons_zero, Act.put, List.setIfInBounds_toArray, List.set_cons_zero, List.set_cons_succ]
      refine wpAnyH_ready (rs := [13]) (by kernel_rfl) (by simp) ?_
      refine AllReadyH.cons rfl (fun K hK => ?_) AllReadyH.nil
      refine step_nds rfl (.tmp 47) (.tmp 58) rfl (fun k => k < w3.heap.size ∨ k = q6) (.slice (some ⟨gq, 0, none⟩) N.length c4) M [⟨⟨false, 0, 0, 0, p.take mh, 0⟩, a5, c5⟩, ⟨⟨false, 0, 0, 0, p.drop mh, 0⟩, a6, c6⟩] rfl (R4.out.keep B12.out) HQS.out HPM.out _ rfl HSRC.out (by have := HMM.out.2; simp only [List.length_cons, List.length_nil]; omega) (N.length + 2) (by have := HMM.out.2; simp only [List.length_cons, List.length_nil]; omega) ?_
      intro a7 c7 w7 hm7x hc7x hR7 hO7
      have O7 := Lib.hid (hO7.mono (T := fun j => j = gq) (fun j hj _ => by injection hj with hj; exact hj.symm))
      have R7 := Lib.hid hR7
      have K7 := Lib.hid (K12.out.six KG.out O7.out)
      have U7 := Lib.hid ((U.out.keep B12.out).only O7.out (fun e => by have h1 : q6 = gq := e; have := HQ.out; omega))
      have HP7 := Lib.hid (prs_only (HP4.out.below B12.out) O7.out (fun _ bb oo sp e e2 => by cases e; exact HPN.out (show gq = pa from e2.symm)))
      have v1 := U7.out.c1
      have vf := U7.out.fr 1
      clear hR7 hO7 hm7x hc7x
      refine hK.out _ _ ?_ (fun hNext => ?_)
      · exact K7.out
      clear hK K hHeld
      have hHeld := hNext
      clear hNext
      try simp only [List.getElem_toArray, List.getElem_cons_succ, List.getElem_cons_zero, Act.put, List.setIfInBounds_toArray, List.set_cons_zero, List.set_cons_succ]
      refine wpAnyH_take (i := 14) (v := ?_) rfl (by kernel_rfl) (by kernel_rfl) (by kernel_rfl) (fun _ _ _ h => h) (Or.inl ⟨by rfl, ?_⟩) hHeld ?_
      rotate_left
      · (intro wS hSw; (try dsimp only at hSw); (try go_split_ands); go_simp; try with_reducible rfl)
      try simp only [List.getElem_toArray, List.getElem_cons_succ, List.getElem_cons_zero, Act.put, List.setIfInBounds_toArray, List.set_cons_zero, List.set_cons_succ]
      refine wpAnyH_ready (rs := [15]) (by kernel_rfl) (by simp) ?_
      refine AllReadyH.cons rfl (fun K hK => ?_) AllReadyH.nil
      go_simp
      refine hK.out _ _ ?_ (fun hNext => ?_)
      · exact K7.out.six (g := q6) (by have := HQ.out; omega) ((Only.refl _ w7).setCell (S := fun j => j = q6) (p := ⟨q6, 1, none⟩) (.inl rfl) _)
      clear hK K hHeld
      have hHeld := hNext
      clear hNext
      try simp only [List.getElem_toArray, List.getElem_cons_succ, List.getElem_cons_zero, Act.put, List.setIfInBounds_toArray, List.set_cons_zero, List.set_cons_succ]
      refine wpAnyH_done (by kernel_rfl) ?_ _
      have KF := Lib.hid hHeld
      clear hHeld v1 vf u0 u1
      have U8 := Lib.hid (U7.out.set1 a7 (N.length + 2) c7)
      have OF := Lib.hid ((Only.refl (fun j => j = q6) w7).setCell (S := fun j => j = q6) (p := ⟨q6, 1, none⟩) (.inl rfl) (.slice a7 (N.length + 2) c7))
      have R8 := Lib.hid (R7.out.only OF.out (fun k hk => .inr hk))
      have HP8 := Lib.hid (U7.out.prs HP7.out 1 (.slice a7 (N.length + 2) c7))
      go_wp2_with (fail)
      go_meet
      case rel => exact ⟨a7, c7, M ++ [⟨⟨false, 0, 0, 0, p.take mh, 0⟩, a5, c5⟩, ⟨⟨false, 0, 0, 0, p.drop mh, 0⟩, a6, c6⟩], rfl, KF.out, U8.out, R8.out, HP8.out, by rw [List.map_append, HMM.out.1]; rfl, (let ⟨z, h1, h2⟩ := HMEM.out; ⟨z, List.mem_append_left _ h1, h2⟩)⟩
    · skip
      refine step_app rfl (.const (.slice none 0 0)) (.tmp 50) rfl (fun j => j < W4.heap.size) (.slice none 0 0) [] (p.take mh) rfl (PRow.nil _ _) (fun k hk => hk) _ rfl (src_prs (prs_takeI (HP4.out.below (Below.refl _ _).drew) mh HMH.out.1) HTL.out.1.symm) (by have := HPL.out; have := HTL.out.1; simp only [List.length_nil]; omega) mh (by have := HTL.out.1; simp only [List.length_nil]; omega) (p.take mh) rfl ?_
      intro a5 c5 w5 hm5x hc5x hR5 hO5
      have B5 := Lib.hid (only_lt ((Below.refl W4.heap.size W4).drew) hO5)
      have R5 := Lib.hid hR5
      have u1 := (U.out.keep B5.out).c1
      clear hR5 hO5 hm5x hc5x
      refine hK.out _ _ ?_ (fun hNext => ?_)
      · exact K4.out.keep B5.out
      clear hK K hHeld
      have hHeld := hNext
      clear hNext
      try simp only [List.getElem_toArray, List.getElem_cons_succ, List.getElem_cons_zero, Act.put, List.setIfInBounds_toArray, List.set_cons_zero, List.set_cons_succ]
      refine wpAnyH_take (i := 6) (v := ?_) rfl (by kernel_rfl) (by kernel_rfl) (by kernel_rfl) (fun _ _ _ h => h) (Or.inl ⟨by rfl, ?_⟩) hHeld ?_
      rotate_left
      · (intro wS hSw; (try dsimp only at hSw); (try go_split_ands); go_simp; try with_reducible rfl)
      try simp only [List.getElem_toArray, List.getElem_cons_succ, List.getElem_cons_zero, Act.put, List.setIfInBounds_toArray, List.set_cons_zero, List.set_cons_succ]
      refine wpAnyH_ready (rs := [1, 10]) (by kernel_rfl) (by simp) ?_
      refine AllReadyH.cons rfl (fun K hK => ?_) (AllReadyH.cons rfl (fun K hK => ?_) AllReadyH.nil)
      · skip
        go_simp
        refine hK.out _ _ ?_ (fun hNext => ?_)
        · exact hHeld
        clear hK K hHeld
        have hHeld := hNext
        clear hNext
        try simp only [List.getElem_toArray, List.getElem_cons_succ, List.getElem_cons_zero, Act.put, List.setIfInBounds_toArray, List.set_cons_zero, List.set_cons_succ]
        refine wpAnyH_ready (rs := [10]) (by kernel_rfl) (by simp) ?_
        refine AllReadyH.cons rfl (fun K hK => ?_) AllReadyH.nil
        refine step_app rfl (.const (.slice none 0 0)) (.tmp 55) rfl (fun j => j < w5.heap.size) (.slice none 0 0) [] (p.drop mh) rfl (PRow.nil _ _) (fun k hk => hk) _ rfl (src_prs (prs_dropI (HP4.out.below B5.out) mh HMH.out.1) HTL.out.2.symm) (by have := HPL.out; have := HTL.out.2; simp only [List.length_nil]; omega) (p.length - mh) (by have := HTL.out.2; simp only [List.length_nil]; omega) (p.drop mh) rfl ?_
        intro a6 c6 w6 hm6x hc6x hR6 hO6
        have B6 := Lib.hid (show Below w5.heap.size w5 w6 from only_lt (Below.refl _ _) hO6)
        have R6 := Lib.hid hR6
        have u1 := (U.out.keep (bel2 B5.out B6.out)).c1
        clear hR6 hO6 hm6x hc6x
        refine hK.out _ _ ?_ (fun hNext => ?_)
        · exact (K4.out.keep B5.out).keep B6.out
        clear hK K hHeld
        have hHeld := hNext
        clear hNext
        try simp only [List.getElem_toArray, List.getElem_cons_succ, List.getElem_cons_zero, Act.put, List.setIfInBounds_toArray, List.set_cons_zero, List.set_cons_succ]
        refine wpAnyH_take (i := 11) (v := ?_) rfl (by kernel_rfl) (by kernel_rfl) (by kernel_rfl) (fun _ _ _ h => h) (Or.inl ⟨by rfl, ?_⟩) hHeld ?_
        rotate_left
        · (intro wS hSw; (try dsimp only at hSw); (try go_split_ands); go_simp; try with_reducible rfl)
        try simp only [List.getElem_toArray, List.getElem_cons_succ, List.getElem_cons_zero, Act.put, List.setIfInBounds_toArray, List.set_cons_zero, List.set_cons_succ]
        refine wpAnyH_ready (rs := [12]) (by kernel_rfl) (by simp) ?_
        refine AllReadyH.cons rfl (fun K hK => ?_) AllReadyH.nil
        go_simp
        refine hK.out _ _ ?_ (fun hNext => ?_)
        · exact hHeld.keep (al1 _)
        have B12 := Lib.hid (bel1 (bel2 B5.out B6.out) (.cells #[.bool false, .int .i64 0, .int .i64 0, .int .i64 0, .slice a5 mh c5, .int .i64 0, .bool false, .int .i64 0, .int .i64 0, .int .i64 0, .slice a6 (p.length - mh) c6, .int .i64 0] 47))
        have BN := Lib.hid (Bk.new w6 #[.bool false, .int .i64 0, .int .i64 0, .int .i64 0, .slice a5 mh c5, .int .i64 0, .bool false, .int .i64 0, .int .i64 0, .int .i64 0, .slice a6 (p.length - mh) c6, .int .i64 0] 47)
        have K12 := Lib.hid (K4.out.keep B12.out)
        have u1 := (U.out.keep B12.out).c1
        have HQS := Lib.hid (show ∀ j, (j < w3.heap.size ∨ j = q6) → j < (w6.alloc (.cells #[.bool false, .int .i64 0, .int .i64 0, .int .i64 0, .slice a5 mh c5, .int .i64 0, .bool false, .int .i64 0, .int .i64 0, .int .i64 0, .slice a6 (p.length - mh) c6, .int .i64 0] 47)).heap.size from fun j hj => by have h1 := HQ.out; have h2 := HU4.out; have h3 := B12.out.size; omega)
        have HPM := Lib.hid (show ∀ z ∈ [(⟨⟨false, 0, 0, 0, p.take mh, 0⟩, a5, c5⟩ : RN), ⟨⟨false, 0, 0, 0, p.drop mh, 0⟩, a6, c6⟩], Prs (w6.alloc (.cells #[.bool false, .int .i64 0, .int .i64 0, .int .i64 0, .slice a5 mh c5, .int .i64 0, .bool false, .int .i64 0, .int .i64 0, .int .i64 0, .slice a6 (p.length - mh) c6, .int .i64 0] 47)) z.a z.c z.n.p ∧ (z.n.p ≠ [] → ∀ bb oo sp, z.a = some ⟨bb, oo, sp⟩ → ¬ (bb < w3.heap.size ∨ bb = q6) ∧ (Value.slice (some ⟨gq, 0, none⟩) N.length c4).ownBlock ≠ some bb) from fun z hz => by
          have h1 := HQ.out
          have h2 := HU4.out
          have h3 := B5.out.size
          simp at hz
          rcases hz with rfl | rfl
          · refine ⟨((R5.out.prs HTL.out.1.symm).below B6.out).below (al1 _), fun _ bb oo sp e => ?_⟩
            have h4 : ¬ bb < W4.heap.size := R5.out.av bb (by rw [show a5 = some ⟨bb, oo, sp⟩ from e]; rfl)
            exact ⟨by omega, fun e2 => by have : gq = bb := Option.some.inj (show some gq = some bb from e2); omega⟩
          · refine ⟨(R6.out.prs HTL.out.2.symm).below (al1 _), fun _ bb oo sp e => ?_⟩
            have h4 : ¬ bb < w5.heap.size := R6.out.av bb (by rw [show a6 = some ⟨bb, oo, sp⟩ from e]; rfl)
            exact ⟨by omega, fun e2 => by have : gq = bb := Option.some.inj (show some gq = some bb from e2); omega⟩)
        have HSRC := Lib.hid (show Source (w6.alloc (.cells #[.bool false, .int .i64 0, .int .i64 0, .int .i64 0, .slice a5 mh c5, .int .i64 0, .bool false, .int .i64 0, .int .i64 0, .int .i64 0, .slice a6 (p.length - mh) c6, .int .i64 0] 47)) (.slice (some ⟨w6.heap.size, 0, none⟩) 2 2) [(⟨⟨false, 0, 0, 0, p.take mh, 0⟩, a5, c5⟩ : RN), ⟨⟨false, 0, 0, 0, p.drop mh, 0⟩, a6, c6⟩].length (cellsN [(⟨⟨false, 0, 0, 0, p.take mh, 0⟩, a5, c5⟩ : RN), ⟨⟨false, 0, 0, 0, p.drop mh, 0⟩, a6, c6⟩]) from .inr ⟨_, _, rfl, fun j u hj => by
          rw [add_lit, Nat.zero_add]
          refine BN.out.at_ j u ?_
          simp only [cellsN, cellN, HTL.out.1, HTL.out.2, List.append_nil, List.cons_append, List.nil_append] at hj
          exact hj⟩)
        clear hK K hHeld
        have hHeld := hNext
        clear hNext
        try simp only [List.getElem_toArray, List.getElem_cons_succ, List.getElem_cons_zero, Act.put, List.setIfInBounds_toArray, List.set_cons_zero, List.set_cons_succ]
        refine wpAnyH_ready (rs := [13]) (by kernel_rfl) (by simp) ?_
        refine AllReadyH.cons rfl (fun K hK => ?_) AllReadyH.nil
        refine step_nds rfl (.tmp 47) (.tmp 58) rfl (fun k => k < w3.heap.size ∨ k = q6) (.slice (some ⟨gq, 0, none⟩) N.length c4) M [⟨⟨false, 0, 0, 0, p.take mh, 0⟩, a5, c5⟩, ⟨⟨false, 0, 0, 0, p.drop mh, 0⟩, a6, c6⟩] rfl (R4.out.keep B12.out) HQS.out HPM.out _ rfl HSRC.out (by have := HMM.out.2; simp only [List.length_cons, List.length_nil]; omega) (N.length + 2) (by have := HMM.out.2; simp only [List.length_cons, List.length_nil]; omega) ?_
        intro a7 c7 w7 hm7x hc7x hR7 hO7
        have O7 := Lib.hid (hO7.mono (T := fun j => j = gq) (fun j hj _ => by injection hj with hj; exact hj.symm))
        have R7 := Lib.hid hR7
        have K7 := Lib.hid (K12.out.six KG.out O7.out)
        have U7 := Lib.hid ((U.out.keep B12.out).only O7.out (fun e => by have h1 : q6 = gq := e; have := HQ.out; omega))
        have HP7 := Lib.hid (prs_only (HP4.out.below B12.out) O7.out (fun _ bb oo sp e e2 => by cases e; exact HPN.out (show gq = pa from e2.symm)))
        have v1 := U7.out.c1
        have vf := U7.out.fr 1
        clear hR7 hO7 hm7x hc7x
        refine hK.out _ _ ?_ (fun hNext => ?_)
        · exact K7.out
        clear hK K hHeld
        have hHeld := hNext
        clear hNext
        try simp only [List.getElem_toArray, List.getElem_cons_succ, List.getElem_cons_zero, Act.put, List.setIfInBounds_toArray, List.set_cons_zero, List.set_cons_succ]
        refine wpAnyH_take (i := 14) (v := ?_) rfl (by kernel_rfl) (by kernel_rfl) (by kernel_rfl) (fun _ _ _ h => h) (Or.inl ⟨by rfl, ?_⟩) hHeld ?_
        rotate_left
        · (intro wS hSw; (try dsimp only at hSw); (try go_split_ands); go_simp; try with_reducible rfl)
        try simp only [List.getElem_toArray, List.getElem_cons_succ, List.getElem_cons_zero, Act.put, List.setIfInBounds_toArray, List.set_cons_zero, List.set_cons_succ]
        refine wpAnyH_ready (rs := [15]) (by kernel_rfl) (by simp) ?_
        refine AllReadyH.cons rfl (fun K hK => ?_) AllReadyH.nil
        go_simp
        refine hK.out _ _ ?_ (fun hNext => ?_)
        · exact K7.out.six (g := q6) (by have := HQ.out; omega) ((Only.refl _ w7).setCell (S := fun j => j = q6) (p := ⟨q6, 1, none⟩) (.inl rfl) _)
        clear hK K hHeld
        have hHeld := hNext
        clear hNext
        try simp only [List.getElem_toArray, List.getElem_cons_succ, List.getElem_cons_zero, Act.put, List.setIfInBounds_toArray, List.set_cons_zero, List.set_cons_succ]
        refine wpAnyH_done (by kernel_rfl) ?_ _
        have KF := Lib.hid hHeld
        clear hHeld v1 vf u0 u1
        have U8 := Lib.hid (U7.out.set1 a7 (N.length + 2) c7)
        have OF := Lib.hid ((Only.refl (fun j => j = q6) w7).setCell (S := fun j => j = q6) (p := ⟨q6, 1, none⟩) (.inl rfl) (.slice a7 (N.length + 2) c7))
        have R8 := Lib.hid (R7.out.only OF.out (fun k hk => .inr hk))
        have HP8 := Lib.hid (U7.out.prs HP7.out 1 (.slice a7 (N.length + 2) c7))
        go_wp2_with (fail)
        go_meet
        case rel => exact ⟨a7, c7, M ++ [⟨⟨false, 0, 0, 0, p.take mh, 0⟩, a5, c5⟩, ⟨⟨false, 0, 0, 0, p.drop mh, 0⟩, a6, c6⟩], rfl, KF.out, U8.out, R8.out, HP8.out, by rw [List.map_append, HMM.out.1]; rfl, (let ⟨z, h1, h2⟩ := HMEM.out; ⟨z, List.mem_append_left _ h1, h2⟩)⟩
      · skip
        refine step_app rfl (.const (.slice none 0 0)) (.tmp 55) rfl (fun j => j < w5.heap.size) (.slice none 0 0) [] (p.drop mh) rfl (PRow.nil _ _) (fun k hk => hk) _ rfl (src_prs (prs_dropI (HP4.out.below B5.out) mh HMH.out.1) HTL.out.2.symm) (by have := HPL.out; have := HTL.out.2; simp only [List.length_nil]; omega) (p.length - mh) (by have := HTL.out.2; simp only [List.length_nil]; omega) (p.drop mh) rfl ?_
        intro a6 c6 w6 hm6x hc6x hR6 hO6
        have B6 := Lib.hid (show Below w5.heap.size w5 w6 from only_lt (Below.refl _ _) hO6)
        have R6 := Lib.hid hR6
        have u1 := (U.out.keep (bel2 B5.out B6.out)).c1
        clear hR6 hO6 hm6x hc6x
        refine hK.out _ _ ?_ (fun hNext => ?_)
        · exact (K4.out.keep B5.out).keep B6.out
        clear hK K hHeld
        have hHeld := hNext
        clear hNext
        try simp only [List.getElem_toArray, List.getElem_cons_succ, List.getElem_cons_zero, Act.put, List.setIfInBounds_toArray, List.set_cons_zero, List.set_cons_succ]
        refine wpAnyH_take (i := 11) (v := ?_) rfl (by kernel_rfl) (by kernel_rfl) (by kernel_rfl) (fun _ _ _ h => h) (Or.inl ⟨by rfl, ?_⟩) hHeld ?_
        rotate_left
        · (intro wS hSw; (try dsimp only at hSw); (try go_split_ands); go_simp; try with_reducible rfl)
        try simp only [List.getElem_toArray, List.getElem_cons_succ, List.getElem_cons_zero, Act.put, List.setIfInBounds_toArray, List.set_cons_zero, List.set_cons_succ]
        refine wpAnyH_ready (rs := [1, 12]) (by kernel_rfl) (by simp) ?_
        refine AllReadyH.cons rfl (fun K hK => ?_) (AllReadyH.cons rfl (fun K hK => ?_) AllReadyH.nil)
        · skip
          go_simp
          refine hK.out _ _ ?_ (fun hNext => ?_)
          · exact hHeld
          clear hK K hHeld
          have hHeld := hNext
          clear hNext
          try simp only [List.getElem_toArray, List.getElem_cons_succ, List.getElem_cons_zero, Act.put, List.setIfInBounds_toArray, List.set_cons_zero, List.set_cons_succ]
          refine wpAnyH_ready (rs := [12]) (by kernel_rfl) (by simp) ?_
          refine AllReadyH.cons rfl (fun K hK => ?_) AllReadyH.nil
          go_simp
          refine hK.out _ _ ?_ (fun hNext => ?_)
          · exact hHeld.keep (al1 _)
          have B12 := Lib.hid (bel1 (bel2 B5.out B6.out) (.cells #[.bool false, .int .i64 0, .int .i64 0, .int .i64 0, .slice a5 mh c5, .int .i64 0, .bool false, .int .i64 0, .int .i64 0, .int .i64 0, .slice a6 (p.length - mh) c6, .int .i64 0] 47))
          have BN := Lib.hid (Bk.new w6 #[.bool false, .int .i64 0, .int .i64 0, .int .i64 0, .slice a5 mh c5, .int .i64 0, .bool false, .int .i64 0, .int .i64 0, .int .i64 0, .slice a6 (p.length - mh) c6, .int .i64 0] 47)
          have K12 := Lib.hid (K4.out.keep B12.out)
          have u1 := (U.out.keep B12.out).c1
          have HQS := Lib.hid (show ∀ j, (j < w3.heap.size ∨ j = q6) → j < (w6.alloc (.cells #[.bool false, .int .i64 0, .int .i64 0, .int .i64 0, .slice a5 mh c5, .int .i64 0, .bool false, .int .i64 0, .int .i64 0, .int .i64 0, .slice a6 (p.length - mh) c6, .int .i64 0] 47)).heap.size from fun j hj => by have h1 := HQ.out; have h2 := HU4.out; have h3 := B12.out.size; omega)
          have HPM := Lib.hid (show ∀ z ∈ [(⟨⟨false, 0, 0, 0, p.take mh, 0⟩, a5, c5⟩ : RN), ⟨⟨false, 0, 0, 0, p.drop mh, 0⟩, a6, c6⟩], Prs (w6.alloc (.cells #[.bool false, .int .i64 0, .int .i64 0, .int .i64 0, .slice a5 mh c5, .int .i64 0, .bool false, .int .i64 0, .int .i64 0, .int .i64 0, .slice a6 (p.length - mh) c6, .int .i64 0] 47)) z.a z.c z.n.p ∧ (z.n.p ≠ [] → ∀ bb oo sp, z.a = some ⟨bb, oo, sp⟩ → ¬ (bb < w3.heap.size ∨ bb = q6) ∧ (Value.slice (some ⟨gq, 0, none⟩) N.length c4).ownBlock ≠ some bb) from fun z hz => by
            have h1 := HQ.out
            have h2 := HU4.out
            have h3 := B5.out.size
            simp at hz
            rcases hz with rfl | rfl
            · refine ⟨((R5.out.prs HTL.out.1.symm).below B6.out).below (al1 _), fun _ bb oo sp e => ?_⟩
              have h4 : ¬ bb < W4.heap.size := R5.out.av bb (by rw [show a5 = some ⟨bb, oo, sp⟩ from e]; rfl)
              exact ⟨by omega, fun e2 => by have : gq = bb := Option.some.inj (show some gq = some bb from e2); omega⟩
            · refine ⟨(R6.out.prs HTL.out.2.symm).below (al1 _), fun _ bb oo sp e => ?_⟩
              have h4 : ¬ bb < w5.heap.size := R6.out.av bb (by rw [show a6 = some ⟨bb, oo, sp⟩ from e]; rfl)
              exact ⟨by omega, fun e2 => by have : gq = bb := Option.some.inj (show some gq = some bb from e2); omega⟩)
          have HSRC := Lib.hid (show Source (w6.alloc (.cells #[.bool false, .int .i64 0, .int .i64 0, .int .i64 0, .slice a5 mh c5, .int .i64 0, .bool false, .int .i64 0, .int .i64 0, .int .i64 0, .slice a6 (p.length - mh) c6, .int .i64 0] 47)) (.slice (some ⟨w6.heap.size, 0, none⟩) 2 2) [(⟨⟨false, 0, 0, 0, p.take mh, 0⟩, a5, c5⟩ : RN), ⟨⟨false, 0, 0, 0, p.drop mh, 0⟩, a6, c6⟩].length (cellsN [(⟨⟨false, 0, 0, 0, p.take mh, 0⟩, a5, c5⟩ : RN), ⟨⟨false, 0, 0, 0, p.drop mh, 0⟩, a6, c6⟩]) from .inr ⟨_, _, rfl, fun j u hj => by
            rw [add_lit, Nat.zero_add]
            refine BN.out.at_ j u ?_
            simp only [cellsN, cellN, HTL.out.1, HTL.out.2, List.append_nil, List.cons_append, List.nil_append] at hj
            exact hj⟩)
          clear hK K hHeld
          have hHeld := hNext
          clear hNext
          try simp only [List.getElem_toArray, List.getElem_cons_succ, List.getElem_cons_zero, Act.put, List.setIfInBounds_toArray, List.set_cons_zero, List.set_cons_succ]
          refine wpAnyH_ready (rs := [13]) (by kernel_rfl) (by simp) ?_
          refine AllReadyH.cons rfl (fun K hK => ?_) AllReadyH.nil
          refine step_nds rfl (.tmp 47) (.tmp 58) rfl (fun k => k < w3.heap.size ∨ k = q6) (.slice (some ⟨gq, 0, none⟩) N.length c4) M [⟨⟨false, 0, 0, 0, p.take mh, 0⟩, a5, c5⟩, ⟨⟨false, 0, 0, 0, p.drop mh, 0⟩, a6, c6⟩] rfl (R4.out.keep B12.out) HQS.out HPM.out _ rfl HSRC.out (by have := HMM.out.2; simp only [List.length_cons, List.length_nil]; omega) (N.length + 2) (by have := HMM.out.2; simp only [List.length_cons, List.length_nil]; omega) ?_
          intro a7 c7 w7 hm7x hc7x hR7 hO7
          have O7 := Lib.hid (hO7.mono (T := fun j => j = gq) (fun j hj _ => by injection hj with hj; exact hj.symm))
          have R7 := Lib.hid hR7
          have K7 := Lib.hid (K12.out.six KG.out O7.out)
          have U7 := Lib.hid ((U.out.keep B12.out).only O7.out (fun e => by have h1 : q6 = gq := e; have := HQ.out; omega))
          have HP7 := Lib.hid (prs_only (HP4.out.below B12.out) O7.out (fun _ bb oo sp e e2 => by cases e; exact HPN.out (show gq = pa from e2.symm)))
          have v1 := U7.out.c1
          have vf := U7.out.fr 1
          clear hR7 hO7 hm7x hc7x
          refine hK.out _ _ ?_ (fun hNext => ?_)
          · exact K7.out
          clear hK K hHeld
          have hHeld := hNext
          clear hNext
          try simp only [List.getElem_toArray, List.getElem_cons_succ, List.getElem_cons_zero, Act.put, List.setIfInBounds_toArray, List.set_cons_zero, List.set_cons_succ]
          refine wpAnyH_take (i := 14) (v := ?_) rfl (by kernel_rfl) (by kernel_rfl) (by kernel_rfl) (fun _ _ _ h => h) (Or.inl ⟨by rfl, ?_⟩) hHeld ?_
          rotate_left
          · (intro wS hSw; (try dsimp only at hSw); (try go_split_ands); go_simp; try with_reducible rfl)
          try simp only [List.getElem_toArray, List.getElem_cons_succ, List.getElem_cons_zero, Act.put, List.setIfInBounds_toArray, List.set_cons_zero, List.set_cons_succ]
          refine wpAnyH_ready (rs := [15]) (by kernel_rfl) (by simp) ?_
          refine AllReadyH.cons rfl (fun K hK => ?_) AllReadyH.nil
          go_simp
          refine hK.out _ _ ?_ (fun hNext => ?_)
          · exact K7.out.six (g := q6) (by have := HQ.out; omega) ((Only.refl _ w7).setCell (S := fun j => j = q6) (p := ⟨q6, 1, none⟩) (.inl rfl) _)
          clear hK K hHeld
          have hHeld := hNext
          clear hNext
          try simp only [List.getElem_toArray, List.getElem_cons_succ, List.getElem_cons_zero, Act.put, List.setIfInBounds_toArray, List.set_cons_zero, List.set_cons_succ]
          refine wpAnyH_done (by kernel_rfl) ?_ _
          have KF := Lib.hid hHeld
          clear hHeld v1 vf u0 u1
          have U8 := Lib.hid (U7.out.set1 a7 (N.length + 2) c7)
          have OF := Lib.hid ((Only.refl (fun j => j = q6) w7).setCell (S := fun j => j = q6) (p := ⟨q6, 1, none⟩) (.inl rfl) (.slice a7 (N.length + 2) c7))
          have R8 := Lib.hid (R7.out.only OF.out (fun k hk => .inr hk))
          have HP8 := Lib.hid (U7.out.prs HP7.out 1 (.slice a7 (N.length + 2) c7))
          go_wp2_with (fail)
          go_meet
          case rel => exact ⟨a7, c7, M ++ [⟨⟨false, 0, 0, 0, p.take mh, 0⟩, a5, c5⟩, ⟨⟨false, 0, 0, 0, p.drop mh, 0⟩, a6, c6⟩], rfl, KF.out, U8.out, R8.out, HP8.out, by rw [List.map_append, HMM.out.1]; rfl, (let ⟨z, h1, h2⟩ := HMEM.out; ⟨z, List.mem_append_left _ h1, h2⟩)⟩
        · skip
          go_simp
          refine hK.out _ _ ?_ (fun hNext => ?_)
          · exact hHeld.keep (al1 _)
          have B12 := Lib.hid (bel1 (bel2 B5.out B6.out) (.cells #[.bool false, .int .i64 0, .int .i64 0, .int .i64 0, .slice a5 mh c5, .int .i64 0, .bool false, .int .i64 0, .int .i64 0, .int .i64 0, .slice a6 (p.length - mh) c6, .int .i64 0] 47))
          have BN := Lib.hid (Bk.new w6 #[.bool false, .int .i64 0, .int .i64 0, .int .i64 0, .slice a5 mh c5, .int .i64 0, .bool false, .int .i64 0, .int .i64 0, .int .i64 0, .slice a6 (p.length - mh) c6, .int .i64 0] 47)
          have K12 := Lib.hid (K4.out.keep B12.out)
          have u1 := (U.out.keep B12.out).c1
          have HQS := Lib.hid (show ∀ j, (j < w3.heap.size ∨ j = q6) → j < (w6.alloc (.cells #[.bool false, .int .i64 0, .int .i64 0, .int .i64 0, .slice a5 mh c5, .int .i64 0, .bool false, .int .i64 0, .int .i64 0, .int .i64 0, .slice a6 (p.length - mh) c6, .int .i64 0] 47)).heap.size from fun j hj => by have h1 := HQ.out; have h2 := HU4.out; have h3 := B12.out.size; omega)
          have HPM := Lib.hid (show ∀ z ∈ [(⟨⟨false, 0, 0, 0, p.take mh, 0⟩, a5, c5⟩ : RN), ⟨⟨false, 0, 0, 0, p.drop mh, 0⟩, a6, c6⟩], Prs (w6.alloc (.cells #[.bool false, .int .i64 0, .int .i64 0, .int .i64 0, .slice a5 mh c5, .int .i64 0, .bool false, .int .i64 0, .int .i64 0, .int .i64 0, .slice a6 (p.length - mh) c6, .int .i64 0] 47)) z.a z.c z.n.p ∧ (z.n.p ≠ [] → ∀ bb oo sp, z.a = some ⟨bb, oo, sp⟩ → ¬ (bb < w3.heap.size ∨ bb = q6) ∧ (Value.slice (some ⟨gq, 0, none⟩) N.length c4).ownBlock ≠ some bb) from fun z hz => by
            have h1 := HQ.out
            have h2 := HU4.out
            have h3 := B5.out.size
            simp at hz
            rcases hz with rfl | rfl
            · refine ⟨((R5.out.prs HTL.out.1.symm).below B6.out).below (al1 _), fun _ bb oo sp e => ?_⟩
              have h4 : ¬ bb < W4.heap.size := R5.out.av bb (by rw [show a5 = some ⟨bb, oo, sp⟩ from e]; rfl)
              exact ⟨by omega, fun e2 => by have : gq = bb := Option.some.inj (show some gq = some bb from e2); omega⟩
            · refine ⟨(R6.out.prs HTL.out.2.symm).below (al1 _), fun _ bb oo sp e => ?_⟩
              have h4 : ¬ bb < w5.heap.size := R6.out.av bb (by rw [show a6 = some ⟨bb, oo, sp⟩ from e]; rfl)
              exact ⟨by omega, fun e2 => by have : gq = bb := Option.some.inj (show some gq = some bb from e2); omega⟩)
          have HSRC := Lib.hid (show Source (w6.alloc (.cells #[.bool false, .int .i64 0, .int .i64 0, .int .i64 0, .slice a5 mh c5, .int .i64 0, .bool false, .int .i64 0, .int .i64 0, .int .i64 0, .slice a6 (p.length - mh) c6, .int .i64 0] 47)) (.slice (some ⟨w6.heap.size, 0, none⟩) 2 2) [(⟨⟨false, 0, 0, 0, p.take mh, 0⟩, a5, c5⟩ : RN), ⟨⟨false, 0, 0, 0, p.drop mh, 0⟩, a6, c6⟩].length (cellsN [(⟨⟨false, 0, 0, 0, p.take mh, 0⟩, a5, c5⟩ : RN), ⟨⟨false, 0, 0, 0, p.drop mh, 0⟩, a6, c6⟩]) from .inr ⟨_, _, rfl, fun j u hj => by
            rw [add_lit, Nat.zero_add]
            refine BN.out.at_ j u ?_
            simp only [cellsN, cellN, HTL.out.1, HTL.out.2, List.append_nil, List.cons_append, List.nil_append] at hj
            exact hj⟩)
          clear hK K hHeld
          have hHeld := hNext
          clear hNext
          try simp only [List.getElem_toArray, List.getElem_cons_succ, List.getElem_cons_zero, Act.put, List.setIfInBounds_toArray, List.set_cons_zero, List.set_cons_succ]
          refine wpAnyH_ready (rs := [1]) (by kernel_rfl) (by simp) ?_
          refine AllReadyH.cons rfl (fun K hK => ?_) AllReadyH.nil
          go_simp
          refine hK.out _ _ ?_ (fun hNext => ?_)
          · exact hHeld
          clear hK K hHeld
          have hHeld := hNext
          clear hNext
          try simp only [List.getElem_toArray, List.getElem_cons_succ, List.getElem_cons_zero, Act.put, List.setIfInBounds_toArray, List.set_cons_zero, List.set_cons_succ]
          refine wpAnyH_ready (rs := [13]) (by kernel_rfl) (by simp) ?_
          refine AllReadyH.cons rfl (fun K hK => ?_) AllReadyH.nil
          refine step_nds rfl (.tmp 47) (.tmp 58) rfl (fun k => k < w3.heap.size ∨ k = q6) (.slice (some ⟨gq, 0, none⟩) N.length c4) M [⟨⟨false, 0, 0, 0, p.take mh, 0⟩, a5, c5⟩, ⟨⟨false, 0, 0, 0, p.drop mh, 0⟩, a6, c6⟩] rfl (R4.out.keep B12.out) HQS.out HPM.out _ rfl HSRC.out (by have := HMM.out.2; simp only [List.length_cons, List.length_nil]; omega) (N.length + 2) (by have := HMM.out.2; simp only [List.length_cons, List.length_nil]; omega) ?_
          intro a7 c7 w7 hm7x hc7x hR7 hO7
          have O7 := Lib.hid (hO7.mono (T := fun j => j = gq) (fun j hj _ => by injection hj with hj; exact hj.symm))
          have R7 := Lib.hid hR7
          have K7 := Lib.hid (K12.out.six KG.out O7.out)
          have U7 := Lib.hid ((U.out.keep B12.out).only O7.out (fun e => by have h1 : q6 = gq := e; have := HQ.out; omega))
          have HP7 := Lib.hid (prs_only (HP4.out.below B12.out) O7.out (fun _ bb oo sp e e2 => by cases e; exact HPN.out (show gq = pa from e2.symm)))
          have v1 := U7.out.c1
          have vf := U7.out.fr 1
          clear hR7 hO7 hm7x hc7x
          refine hK.out _ _ ?_ (fun hNext => ?_)
          · exact K7.out
          clear hK K hHeld
          have hHeld := hNext
          clear hNext
          try simp only [List.getElem_toArray, List.getElem_cons_succ, List.getElem_cons_zero, Act.put, List.setIfInBounds_toArray, List.set_cons_zero, List.set_cons_succ]
          refine wpAnyH_take (i := 14) (v := ?_) rfl (by kernel_rfl) (by kernel_rfl) (by kernel_rfl) (fun _ _ _ h => h) (Or.inl ⟨by rfl, ?_⟩) hHeld ?_
          rotate_left
          · (intro wS hSw; (try dsimp only at hSw); (try go_split_ands); go_simp; try with_reducible rfl)
          try simp only [List.getElem_toArray, List.getElem_cons_succ, List.getElem_cons_zero, Act.put, List.setIfInBounds_toArray, List.set_cons_zero, List.set_cons_succ]
          refine wpAnyH_ready (rs := [15]) (by kernel_rfl) (by simp) ?_
          refine AllReadyH.cons rfl (fun K hK => ?_) AllReadyH.nil
          go_simp
          refine hK.out _ _ ?_ (fun hNext => ?_)
          · exact K7.out.six (g := q6) (by have := HQ.out; omega) ((Only.refl _ w7).setCell (S := fun j => j = q6) (p := ⟨q6, 1, none⟩) (.inl rfl) _)
          clear hK K hHeld
          have hHeld := hNext
          clear hNext
          try simp only [List.getElem_toArray, List.getElem_cons_succ, List.getElem_cons_zero, Act.put, List.setIfInBounds_toArray, List.set_cons_zero, List.set_cons_succ]
          refine wpAnyH_done (by kernel_rfl) ?_ _
          have KF := Lib.hid hHeld
          clear hHeld v1 vf u0 u1
          have U8 := Lib.hid (U7.out.set1 a7 (N.length + 2) c7)
          have OF := Lib.hid ((Only.refl (fun j => j = q6) w7).setCell (S := fun j => j = q6) (p := ⟨q6, 1, none⟩) (.inl rfl) (.slice a7 (N.length + 2) c7))
          have R8 := Lib.hid (R7.out.only OF.out (fun k hk => .inr hk))
          have HP8 := Lib.hid (U7.out.prs HP7.out 1 (.slice a7 (N.length + 2) c7))
          go_wp2_with (fail)
          go_meet
          case rel => exact ⟨a7, c7, M ++ [⟨⟨false, 0, 0, 0, p.take mh, 0⟩, a5, c5⟩, ⟨⟨false, 0, 0, 0, p.drop mh, 0⟩, a6, c6⟩], rfl, KF.out, U8.out, R8.out, HP8.out, by rw [List.map_append, HMM.out.1]; rfl, (let ⟨z, h1, h2⟩ := HMEM.out; ⟨z, List.mem_append_left _ h1, h2⟩)⟩
  case rest =>
    obtain ⟨a7, c7, M7, rfl, hK7', hU7', hR7', hP7', hM7, z7, hz7, hz8, hz9⟩ := hcut
    have hK7 := hK7'.keep (Below.refl _ wc).drew
    have hU7 := hU7'.keep (Below.refl _ wc).drew
    have hR7 := hR7'.keep (Below.refl _ wc).drew
    have hP7 := hP7'.below (Below.refl _ wc).drew
    clear hK7' hU7' hR7' hP7'
    have hML7 : M7.length = N.length + 2 := by have := congrArg List.length hM7; simpa using this
    obtain ⟨m0, hm0⟩ : ∃ m0, M7[i]? = some m0 := ⟨_, List.getElem?_eq_getElem (by omega)⟩
    obtain ⟨g7, rfl, -, hna, hfz⟩ := hR7.at hm0
    have HG7 := Lib.hid (show ¬ (g7 < w3.heap.size ∨ g7 = q6) from hR7.own g7 rfl)
    have HQ7 := Lib.hid (show w.heap.size + 1 < g7 ∧ q6 ≠ g7 from by have := HQ.out; have := HG7.out; omega)
    obtain ⟨pb', po', e', q0', q1'⟩ := hP7.2.2.1 mh q hq
    cases e'
    have HQK := Lib.hid q0'
    have HPG := Lib.hid (show pa ≠ g7 from fun e => ((hR7.prs z7 hz7).2 hz9 pa po none hz8).2 (by rw [e]; rfl))
    have K7 := Lib.hid hK7
    have U7 := Lib.hid hU7
    have HM7 := Lib.hid hM7
    have T9 := Lib.hid (hR7.six hm0 ⟨⟨true, q.1, (N.length : Int), (N.length : Int) + 1, [], 0⟩, none, 0⟩ (Prs.nil _) (fun h => absurd rfl h))
    obtain ⟨_, _, e', hcp1', hcp2'⟩ := hR7.form
    injection e' with e1 e2 e3
    subst e3
    rw [hML7] at hcp1'
    unfold maxLen at hcp2'
    have hw1 : IntKind.i64.wrap ((N.length : Int) + 1) = (N.length : Int) + 1 := by rw [IntKind.wrap_i64]; omega
    have hi2 : (i : Int) < ((N.length + 2 : Nat) : Int) := by omega
    have hi3 : (i : Int) < (N.length : Int) + 2 := by omega
    clear e1 e2 hm0 hK7 hU7 hR7 hP7 hM7 hML7 q0' q1' z7 hz7 hz8 hz9
    go_upto_region 8 with (fail)
    refine wp_region_held_drew (S := (fun W => W.cell? ⟨q6, 1, none⟩ = some (.slice (some ⟨g7, 0, none⟩) (N.length + 2) c7) ∧ W.cell? ⟨pa, po + mh * 2, none⟩ = some (.int .i64 q.1) ∧ KS w t (some ⟨b, o, none⟩) cap N W)) (by kernel_rfl) (by exact ⟨U7.out.c1, HQK.out, K7.out⟩) (fun hHeld => ?_)
    generalize (World.drew wc : World) = W8 at *
    refine wpAnyH_take (i := 0) (v := ?_) rfl (by kernel_rfl) (by kernel_rfl) (by kernel_rfl) (fun _ _ _ h => h) (Or.inl ⟨by rfl, ?_⟩) hHeld ?_
    rotate_left
    · (intro wS hSw; (try dsimp only at hSw); (try go_split_ands); go_simp; try with_reducible rfl)
    try simp only [List.getElem_toArray, List.getElem_cons_succ, List.getElem_cons_zero, Act.put, List.setIfInBounds_toArray, List.set_cons_zero, List.set_cons_succ]
    refine wpAnyH_take (i := 1) (v := ?_) rfl (by kernel_rfl) (by kernel_rfl) (by kernel_rfl) (fun _ _ _ h => h) (Or.inl ⟨by rfl, ?_⟩) hHeld ?_
    rotate_left
    · (intro wS hSw; (try dsimp only at hSw); (try go_split_ands); go_simp; try with_reducible rfl)
    try simp only [List.getElem_toArray, List.getElem_cons_succ, List.getElem_cons_zero, Act.put, List.setIfInBounds_toArray, List.set_cons_zero, List.set_cons_succ]
    refine wpAnyH_take (i := 2) (v := ?_) rfl (by kernel_rfl) (by kernel_rfl) (by kernel_rfl) (fun _ _ _ h => h) (Or.inl ⟨by rfl, ?_⟩) hHeld ?_
    rotate_left
    · (intro wS hSw; (try dsimp only at hSw); (try go_split_ands); go_simp; try with_reducible rfl)
    try simp only [List.getElem_toArray, List.getElem_cons_succ, List.getElem_cons_zero, Act.put, List.setIfInBounds_toArray, List.set_cons_zero, List.set_cons_succ]
    refine wpAnyH_take (i := 3) (v := ?_) rfl (by kernel_rfl) (by kernel_rfl) (by kernel_rfl) (fun _ _ _ h => h) (Or.inl ⟨by rfl, ?_⟩) hHeld ?_
    rotate_left
    · (intro wS hSw; (try dsimp only at hSw); (try go_split_ands); go_simp; try with_reducible rfl)
    try simp only [List.getElem_toArray, List.getElem_cons_succ, List.getElem_cons_zero, Act.put, List.setIfInBounds_toArray, List.set_cons_zero, List.set_cons_succ]
    refine wpAnyH_take (i := 4) (v := ?_) rfl (by kernel_rfl) (by kernel_rfl) (by kernel_rfl) (fun _ _ _ h => h) (Or.inl ⟨by rfl, ?_⟩) hHeld ?_
    rotate_left
    · (intro wS hSw; (try dsimp only at hSw); (try go_split_ands); go_simp; try with_reducible rfl)
    try simp only [List.getElem_toArray, List.getElem_cons_succ, List.getElem_cons_zero, Act.put, List.setIfInBounds_toArray, List.set_cons_zero, List.set_cons_succ]
    refine wpAnyH_take (i := 5) (v := ?_) rfl (by kernel_rfl) (by kernel_rfl) (by kernel_rfl) (fun _ _ _ h => h) (Or.inl ⟨by rfl, ?_⟩) hHeld ?_
    rotate_left
    · (intro wS hSw; (try dsimp only at hSw); (try go_split_ands); go_simp; try with_reducible rfl)
    try simp only [List.getElem_toArray, List.getElem_cons_succ, List.getElem_cons_zero, Act.put, List.setIfInBounds_toArray, List.set_cons_zero, List.set_cons_succ]
    refine wpAnyH_take (i := 6) (v := ?_) rfl (by kernel_rfl) (by kernel_rfl) (by kernel_rfl) (fun _ _ _ h => h) (Or.inl ⟨by rfl, ?_⟩) hHeld ?_
    rotate_left
    · (intro wS hSw; (try dsimp only at hSw); (try go_split_ands); go_simp; try with_reducible rfl)
    try simp only [List.getElem_toArray, List.getElem_cons_succ, List.getElem_cons_zero, Act.put, List.setIfInBounds_toArray, List.set_cons_zero, List.set_cons_succ]
    refine wpAnyH_take (i := 7) (v := ?_) rfl (by kernel_rfl) (by kernel_rfl) (by kernel_rfl) (fun _ _ _ h => h) (Or.inl ⟨by rfl, ?_⟩) hHeld ?_
    rotate_left
    · (intro wS hSw; (try dsimp only at hSw); (try go_split_ands); go_simp; try with_reducible rfl)
    try simp only [List.getElem_toArray, List.getElem_cons_succ, List.getElem_cons_zero, Act.put, List.setIfInBounds_toArray, List.set_cons_zero, List.set_cons_succ]
    refine wpAnyH_take (i := 8) (v := ?_) rfl (by kernel_rfl) (by kernel_rfl) (by kernel_rfl) (fun _ _ _ h => h) (Or.inl ⟨by rfl, ?_⟩) hHeld ?_
    rotate_left
    · (intro wS hSw; (try dsimp only at hSw); (try go_split_ands); go_simp; try with_reducible rfl)
    try simp only [List.getElem_toArray, List.getElem_cons_succ, List.getElem_cons_zero, Act.put, List.setIfInBounds_toArray, List.set_cons_zero, List.set_cons_succ]
    refine wpAnyH_take (i := 9) (v := ?_) rfl (by kernel_rfl) (by kernel_rfl) (by kernel_rfl) (fun _ _ _ h => h) (Or.inl ⟨by rfl, ?_⟩) hHeld ?_
    rotate_left
    · (intro wS hSw; (try dsimp only at hSw); (try go_split_ands); go_simp; try with_reducible rfl)
    try simp only [List.getElem_toArray, List.getElem_cons_succ, List.getElem_cons_zero, Act.put, List.setIfInBounds_toArray, List.set_cons_zero, List.set_cons_succ]
    refine wpAnyH_take (i := 10) (v := ?_) rfl (by kernel_rfl) (by kernel_rfl) (by kernel_rfl) (fun _ _ _ h => h) (Or.inl ⟨by rfl, ?_⟩) hHeld ?_
    rotate_left
    · (intro wS hSw; (try dsimp only at hSw); (try go_split_ands); go_simp; try with_reducible rfl)
    try simp only [List.getElem_toArray, List.getElem_cons_succ, List.getElem_cons_zero, Act.put, List.setIfInBounds_toArray, List.set_cons_zero, List.set_cons_succ]
    refine wpAnyH_take (i := 11) (v := ?_) rfl (by kernel_rfl) (by kernel_rfl) (by kernel_rfl) (fun _ _ _ h => h) (Or.inl ⟨by rfl, ?_⟩) hHeld ?_
    rotate_left
    · (intro wS hSw; (try dsimp only at hSw); (try go_split_ands); go_simp; try with_reducible rfl)
    try simp only [List.getElem_toArray, List.getElem_cons_succ, List.getElem_cons_zero, Act.put, List.setIfInBounds_toArray, List.set_cons_zero, List.set_cons_succ]
    refine wpAnyH_take (i := 12) (v := ?_) rfl (by kernel_rfl) (by kernel_rfl) (by kernel_rfl) (fun _ _ _ h => h) (Or.inl ⟨by rfl, ?_⟩) hHeld ?_
    rotate_left
    · (intro wS hSw; (try dsimp only at hSw); (try go_split_ands); go_simp; try with_reducible rfl)
    try simp only [List.getElem_toArray, List.getElem_cons_succ, List.getElem_cons_zero, Act.put, List.setIfInBounds_toArray, List.set_cons_zero, List.set_cons_succ]
    obtain ⟨x0, x1, x2, x3, x4, x5, -⟩ := hna
    refine wpAnyH_ready (rs := [13]) (by kernel_rfl) (by simp) ?_
    refine AllReadyH.cons rfl (fun K hK => ?_) AllReadyH.nil
    go_simp
    have O9 := Lib.hid (only_six (S := fun j => j = g7) (v0 := .bool true) (v1 := .int .i64 q.1) (v2 := .int .i64 (N.length : Int)) (v3 := .int .i64 ((N.length : Int) + 1)) (v4 := .slice none 0 0) (v5 := .int .i64 0) (j := i * 6) (Only.refl _ W8) (.inl rfl))
    refine hK.out _ _ ?_ (fun hNext => ?_)
    · exact ⟨(U7.out.only O9.out (fun e => HQ7.out.2 e)).c1, O9.out.cell HQK.out (fun e => HPG.out e), K7.out.six HQ7.out.1 O9.out⟩
    clear hK K hHeld
    have hHeld := hNext
    clear hNext
    try simp only [List.getElem_toArray, List.getElem_cons_succ, List.getElem_cons_zero, Act.put, List.setIfInBounds_toArray, List.set_cons_zero, List.set_cons_succ]
    refine wpAnyH_done (by kernel_rfl) ?_ _
    clear hHeld x0 x1 x2 x3 x4 x5 hfz
    first | generalize ((((((World.setCell W8 ⟨g7, i * 6, none⟩ _).setCell _ _).setCell _ _).setCell _ _).setCell _ _).setCell _ _ : World) = X9 at T9 O9 ⊢ | fail
    obtain ⟨hTr, -, hLay⟩ := HT.out
    have hgd : p.getD mh (0, 0) = q := by simp [List.getD, hq]
    rw [hgd] at hTr hLay
    have hMap : (M7.set i ⟨⟨true, q.1, (N.length : Int), (N.length : Int) + 1, [], 0⟩, none, 0⟩).map (fun m => m.n) = N.set i ⟨true, q.1, (N.length : Int), ((N.length + 1 : Nat) : Int), [], 0⟩ ++ [⟨false, 0, 0, 0, p.take mh, 0⟩, ⟨false, 0, 0, 0, p.drop mh, 0⟩] := by
      rw [List.map_set, HM7.out, List.set_append_left _ _ hil]; rfl
    have hNs := T9.out.ns.2
    rw [hMap] at hNs
    have hsL : Small (N.set i ⟨true, q.1, (N.length : Int), ((N.length + 1 : Nat) : Int), [], 0⟩ ++ [⟨false, 0, 0, 0, p.take mh, 0⟩, ⟨false, 0, 0, 0, p.drop mh, 0⟩]) := by
      refine ⟨by simp; omega, fun n hn => ?_⟩
      have hpp := HPL.out
      rcases List.mem_append.1 hn with hn | hn
      · rcases List.mem_or_eq_of_mem_set hn with hn | rfl
        · exact HS.out.2 n hn
        · exact Nat.zero_le _
      · simp at hn
        rcases hn with rfl | rfl
        · simp; omega
        · simp; omega
    have hLl : (N.set i ⟨true, q.1, (N.length : Int), ((N.length + 1 : Nat) : Int), [], 0⟩ ++ [(⟨false, 0, 0, 0, p.take mh, 0⟩ : Nd), ⟨false, 0, 0, 0, p.drop mh, 0⟩]).length = N.length + 2 := by simp
    have cpl := rp_any hsL (.inl ⟨_, hTr, rfl, rfl⟩) X9 hNs
    rw [hLay] at cpl
    unfold PlB trv at cpl
    rw [hLl] at cpl
    have K9 := Lib.hid (K7.out.six HQ7.out.1 O9.out)
    have U9 := Lib.hid (U7.out.only O9.out (fun e => HQ7.out.2 e))
    have u0 := U9.out.c0
    have u1 := U9.out.c1
    clear hTr hLay hMap hNs hsL hLl hq hgd
    go_wp2_with (go_at_call 34; ((with_reducible refine cpl.mono ?_); clear cpl u0 u1; rintro e X10 ⟨a9, c9, rfl, hn9, hb9⟩; have K10 := Lib.hid (K9.out.keep hb9); have HN9 := Lib.hid hn9; clear hn9 hb9; have r0 := K10.out.r.c0; have r1 := K10.out.r.c1; have f0 := K10.out.r.fr 0; have f1 := K10.out.r.fr 1))
    exact bodyPost_ret (v := .tuple #[.agg #[.int .i64 0, .slice a9 ((splA N i s).lay 0).length c9], .bool true]) (by simp [results, Try.results11, go_sem, r0, r1]) rfl ⟨a9, c9, rfl, ns_ret K10.out.r HN9.out _ _, ret_below K10.out.b (by omega) _ _⟩
/-- osierref1.SplitLeaf. -/
theorem rspl_any (t : Int) (a : Option Addr) (cap : Nat) (N : List Nd) (y : Int) (w : World) (hN : Ns w a cap N) (hsm : Small N) (hle : N.length + 2 ≤ 2000) (x : Bool) (Q : List Nd) (h : SplO N t y x Q) :
    Calls Try.prog 11 #[trv t a cap N, .int .i64 y] w (PlB w x Q) := by
  rcases h with ⟨rfl, s, i, h, h2, _, rfl⟩ | ⟨rfl, rfl, h⟩
  · obtain rfl := h.2.1
    exact rspl_yes t a cap N s i w hN hsm h h2 hle
  · rcases Classical.em (∃ s i, LfAt N t y s i) with ⟨s, i, h2⟩ | h2
    · obtain rfl := h2.2.1
      exact (rspl_few t a cap N s i w hN hsm h2 (fun hh => h ⟨s, i, h2, hh, hle⟩)).mono (fun e w' hh => ⟨none, 0, hh.1, Ns.none _, hh.2⟩)
    · exact (rspl_no t a cap N y w hN hsm h2).mono (fun e w' hh => ⟨none, 0, hh.1, Ns.none _, hh.2⟩)
#print axioms rspl_any
end Go.Proofs.Yteebceecohhegaa
