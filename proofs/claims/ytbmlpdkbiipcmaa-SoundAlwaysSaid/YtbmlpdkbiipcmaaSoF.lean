/- Contract of sound's from, sound.May over any arena. -/
import Derived.Test.YtbmlpdkbiipcmaaSoM
namespace Go.Proofs.Ytbmlpdkbiipcmaa
open Go.RowKit
set_option linter.all false

theorem hngF_m {f : Int → Cst → Nd × Bool × Cst} (hf : ∀ c σ, (f c σ).2.2.m ≤ σ.m) (t k c : Int) (σ : Cst) : (hngF f t k c σ).2.2.m ≤ σ.m := by
  unfold hngF
  split
  · exact Nat.le_refl _
  · split
    · exact Nat.le_refl _
    · exact hf c σ
theorem frm_m (L : List It) : ∀ (N : Nat) (t : Int) (σ : Cst), (frm L N t σ).2.2.m ≤ σ.m := by
  intro N
  induction N with
  | zero => intro t σ; exact Nat.le_refl _
  | succ N ih =>
    intro t σ
    rw [frm]
    split
    · have h1 := hngF_m (fun c σ => ih c σ) t (valL L t 0) (valL L t 2) ⟨σ.m - 1, σ.b, σ.l⟩
      dsimp only at h1
      have h2 := hngF_m (fun c σ => ih c σ) t (valL L t 0) (valL L t 3) ⟨(hngF (frm L N) t (valL L t 0) (valL L t 2) ⟨σ.m - 1, σ.b, σ.l⟩).2.2.m, true, valL L t 0⟩
      dsimp only at h2
      unfold stpF
      split
      · split
        · dsimp only; omega
        · dsimp only; omega
      · dsimp only; omega
    · exact Nat.le_refl _

theorem wrapI {n q : Int} (h : IntKind.i64.wrap n = q) : wrap64 n = q := by have e := IntKind.wrap_i64 n; unfold wrap64; omega
def stp1 (m0 m1 m2 m3 m4 m5 : Int) (okl bl : Bool) (ml : Nat) (ll a4 a5 : Int) (okr : Bool) (d4 d5 : Int) (τ : Cst) : Nd × Bool × Cst :=
  if okl = true ∧ ¬ (bl = true ∧ m0 ≤ ll) then
    if okr = true then (⟨m0, m1, m2, m3, m4, m5⟩, (m4 == wrap64 (wrap64 (a4 + d4) + 1)) && (m5 == wrap64 (max a5 d5 + 1)), τ)
    else (Nd.z, false, τ)
  else (Nd.z, false, ⟨ml, bl, ll⟩)
section
variable {m0 m1 m2 m3 m4 m5 : Int} {okl bl : Bool} {ml : Nat} {ll a4 a5 : Int} {okr : Bool} {d4 d5 : Int} {τ : Cst}
theorem stp1_left : stp1 m0 m1 m2 m3 m4 m5 false bl ml ll a4 a5 okr d4 d5 τ = (Nd.z, false, ⟨ml, bl, ll⟩) := if_neg (fun hh => by cases hh.1)
theorem stp1_falls (h : bl = true ∧ m0 ≤ ll) : stp1 m0 m1 m2 m3 m4 m5 okl bl ml ll a4 a5 okr d4 d5 τ = (Nd.z, false, ⟨ml, bl, ll⟩) := if_neg (fun hh => hh.2 h)
theorem stp1_right (h : ¬ (bl = true ∧ m0 ≤ ll)) : stp1 m0 m1 m2 m3 m4 m5 true bl ml ll a4 a5 false d4 d5 τ = (Nd.z, false, τ) := (if_pos ⟨rfl, h⟩).trans (if_neg (fun hh => by cases hh))
theorem stp1_yes (h : ¬ (bl = true ∧ m0 ≤ ll)) : stp1 m0 m1 m2 m3 m4 m5 true bl ml ll a4 a5 true d4 d5 τ = (⟨m0, m1, m2, m3, m4, m5⟩, (m4 == wrap64 (wrap64 (a4 + d4) + 1)) && (m5 == wrap64 (max a5 d5 + 1)), τ) := (if_pos ⟨rfl, h⟩).trans (if_pos rfl)
end

set_option maxRecDepth 100000 in
set_option maxHeartbeats 6400000 in
theorem cfrom_any {L : List It} {w1 : World} {wb : Nat} {ao : Option Addr} (hg : Gets ao L w1) (hl : w1.heap.size ≤ wb) : ∀ N : Nat, FrmOk w1 wb ao N (frm L N) := by
  intro N
  induction N with
  | zero =>
    intro t σ W ht hm hC hb
    exact cfrom_no hg t σ hC hb hl (fun hh => by have := (kind_one_range hh.1).1; omega)
  | succ N ih =>
    intro t σ W ht hm hC hb
    by_cases hn : kindL L t = 1 ∧ σ.m ≠ 0
    · have e : frm L (N + 1) t σ = stpF L t (hngF (frm L N) t (valL L t 0) (valL L t 2) ⟨σ.m - 1, σ.b, σ.l⟩)
          (hngF (frm L N) t (valL L t 0) (valL L t 3) ⟨(hngF (frm L N) t (valL L t 0) (valL L t 2) ⟨σ.m - 1, σ.b, σ.l⟩).2.2.m, true, valL L t 0⟩) := if_pos hn
      rw [e]
      obtain ⟨hk, hm0⟩ := hn
      obtain ⟨B, m0, m1, m2, m3, m4, m5, hat, cg⟩ := hg.at (Below.refl _ _) t
      obtain rfl : B = true := by rw [← hat.1, hk]; rfl
      obtain ⟨-, e0, e1, e2, e3, e4, e5⟩ := hat.yes
      unfold stpF
      rw [e0, e1, e2, e3, e4, e5]
      have cl := fun V (hV : Cs V wb ao (σ.m - 1) σ.b σ.l) (hbV : Below w1.heap.size w1 V) => chung_any ih t m0 m2 ⟨σ.m - 1, σ.b, σ.l⟩ ht (by show σ.m - 1 ≤ 60000; omega) hV hbV
      have hm1 := hngF_m (frm_m L N) t m0 m2 ⟨σ.m - 1, σ.b, σ.l⟩
      dsimp only at hm1
      generalize hngF (frm L N) t m0 m2 ⟨σ.m - 1, σ.b, σ.l⟩ = rl at cl hm1 ⊢
      have hmm : rl.2.2.m ≤ 60000 := by omega
      have cr := fun V (hV : Cs V wb ao rl.2.2.m true m0) (hbV : Below w1.heap.size w1 V) => chung_any ih t m0 m3 ⟨rl.2.2.m, true, m0⟩ ht hmm hV hbV
      generalize hngF (frm L N) t m0 m3 ⟨rl.2.2.m, true, m0⟩ = rr at cr ⊢
      obtain ⟨⟨a0, a1, a2, a3, a4, a5⟩, okl, ⟨ml, bl, ll⟩⟩ := rl
      obtain ⟨⟨d0, d1, d2, d3, d4, d5⟩, okr, ⟨mr, br, lr⟩⟩ := rr
      dsimp only at cl cr hmm ⊢
      obtain ⟨m, b, l⟩ := σ
      dsimp only at hm hC hm0 cl ⊢
      have o0 : Below W.heap.size W (W.alloc (.cells #[.int .i64 0, .int .i64 0, .int .i64 0, .int .i64 0, .int .i64 0, .int .i64 0] 41)) := (Below.refl _ _).alloc (Nat.le_refl _) _
      have b0 := hb.trans (o0.mono hb.size)
      have BG := Lib.hid (fun w2 h2 => Fw.begin (k := m0) (v := m1) (x := m2) (y := m3) (s := m4) (h := m5) (w2 := w2) (σ := ⟨m, b, l⟩) hC hb hl h2)
      have c0 := cell_alloc hC.c0 (.cells #[.int .i64 0, .int .i64 0, .int .i64 0, .int .i64 0, .int .i64 0, .int .i64 0] 41)
      have hmne : (((m : Nat) : Int) == 0) = false := by simp; omega
      have hw : wrap64 (((m : Nat) : Int) - 1) = ((m - 1 : Nat) : Int) := by unfold wrap64; omega
      clear hat hC e e0 e1 e2 e3 e4 e5 hk hm hm0 hm1 hmm ht ih hg o0
      obtain ⟨res, hres⟩ : ∃ res, stp1 m0 m1 m2 m3 m4 m5 okl bl ml ll a4 a5 okr d4 d5 ⟨mr, br, lr⟩ = res := ⟨_, rfl⟩
      change Calls Try.prog 31 #[.pointer (some ⟨wb, 0, none⟩), .int .i64 t] W (FrmSays W wb ao (stp1 m0 m1 m2 m3 m4 m5 okl bl ml ll a4 a5 okr d4 d5 ⟨mr, br, lr⟩))
      rw [hres]
      have HR := Lib.hid hres
      clear hres
      go_enter Try.func31, Try.ntmps31
      go_upto_region 2 with (first | (go_at_call 17; ((with_reducible refine (cg _ b0).mono ?_); clear cg; rintro e w2 ⟨rfl, hb2⟩)))
      have H2 := BG.out w2 hb2
      generalize w2.heap.size = nb at *
      generalize W.heap.size = rb at *
      generalize (World.alloc w2 _ : World) = W2 at *
      clear BG c0 b0 hb2
      obtain ⟨⟨n0, n1, n2, n3, n4, n5⟩, c0, c1, f1⟩ := H2.cells
      have H3 := H2.less (m - 1)
      obtain ⟨⟨k0, k1, k2, k3, k4, k5⟩, g0, g1, -⟩ := H3.cells
      have HH3 := Lib.hid H3
      clear H2 H3
      go_upto_region 6 with (first | (go_at_call 49; ((with_reducible refine (cl _ HH3.out.c HH3.out.b).mono ?_); clear cl; rintro e w4 ⟨rfl, hc4, ho4⟩)))
      have H4 := (HH3.out.only (τ := ⟨ml, bl, ll⟩) ho4 hc4).keep ((Below.refl _ _).alloc (Nat.le_refl _) (.cells #[.int .i64 a0, .int .i64 a1, .int .i64 a2, .int .i64 a3, .int .i64 a4, .int .i64 a5] 41))
      have NL := Lib.hid (Six.new w4 a0 a1 a2 a3 a4 a5 41).toNodeAt
      have HLB := Lib.hid (show rb < w4.heap.size ∧ wb < w4.heap.size from ⟨Nat.lt_of_lt_of_le HH3.out.z.lt ho4.size, Nat.lt_of_lt_of_le HH3.out.c.lt ho4.size⟩)
      clear hc4 ho4 HH3 n0 n1 n2 n3 n4 n5 c0 c1 f1 k0 k1 k2 k3 k4 k5 g0 g1 hmne hw
      generalize w4.heap.size = lb at *
      generalize (World.alloc w4 _ : World) = W4 at *
      cases okl
      · have er := HR.out.symm.trans stp1_left
        clear HR
        have ER := Lib.hid er
        clear er
        obtain ⟨Wf, hWf, zf, cf, of⟩ := H4.no
        obtain ⟨z0, z1, z2, z3, z4, z5, f0, f1, f2, f3, f4, f5⟩ := H4.z
        have HWf := Lib.hid hWf
        clear hWf
        go_wp2_with (fail)
        rw [← HWf.out]
        obtain ⟨r0, r1, r2, r3, r4, r5, -, -, -, -, -, -⟩ := zf
        refine bodyPost_ret (v := .tuple #[.agg #[.int .i64 0, .int .i64 0, .int .i64 0, .int .i64 0, .int .i64 0, .int .i64 0], .bool false]) (by simp [results, Try.results31, go_sem, r0, r1, r2, r3, r4, r5]) rfl (by rw [ER.out]; exact ⟨rfl, cf, of⟩)
      · obtain ⟨⟨n0, n1, n2, n3, n4, n5⟩, c0, c1, f1⟩ := H4.cells
        by_cases hr : bl = true ∧ m0 ≤ ll
        · have er := HR.out.symm.trans (stp1_falls hr)
          clear HR
          have ER := Lib.hid er
          clear er
          obtain ⟨rfl, hr⟩ := hr
          have H4' := Lib.hid H4
          have cri := rises_no m0 H4.c hr
          clear hr H4
          go_upto_region 7 with (first | (go_at_call 50; ((with_reducible refine cri.mono ?_); clear cri; rintro e w5 ⟨rfl, hc5, ho5⟩)))
          have H5 := H4'.out.only (τ := ⟨ml, true, ll⟩) ho5 hc5
          clear n0 n1 n2 n3 n4 n5 c0 c1 f1
          obtain ⟨Wf, hWf, zf, cf, of⟩ := H5.no
          obtain ⟨z0, z1, z2, z3, z4, z5, f0, f1, f2, f3, f4, f5⟩ := H5.z
          have HWf := Lib.hid hWf
          clear hWf
          go_wp2_with (fail)
          rw [← HWf.out]
          obtain ⟨r0, r1, r2, r3, r4, r5, -, -, -, -, -, -⟩ := zf
          refine bodyPost_ret (v := .tuple #[.agg #[.int .i64 0, .int .i64 0, .int .i64 0, .int .i64 0, .int .i64 0, .int .i64 0], .bool false]) (by simp [results, Try.results31, go_sem, r0, r1, r2, r3, r4, r5]) rfl (by rw [ER.out]; exact ⟨rfl, cf, of⟩)
        · have HRR := Lib.hid hr
          have H4' := Lib.hid H4
          have cri := rises_yes m0 H4.c hr
          clear hr H4
          go_upto_region 8 with (first | (go_at_call 50; ((with_reducible refine cri.mono ?_); clear cri; rintro e w5 ⟨rfl, hc5, ho5⟩)))
          have H5 := H4'.out.only (τ := ⟨ml, true, m0⟩) ho5 hc5
          have NL5 := Lib.hid (NL.out.only ho5 (by have := HLB.out; omega))
          have HH5 := Lib.hid H5
          clear n0 n1 n2 n3 n4 n5 c0 c1 f1 H4' NL hc5 ho5
          obtain ⟨⟨n0, n1, n2, n3, n4, n5⟩, c0, c1, f1⟩ := H5.cells
          clear H5
          go_upto_region 9 with (first | (go_at_call 49; ((with_reducible refine (cr _ HH5.out.c HH5.out.b).mono ?_); clear cr; rintro e w6 ⟨rfl, hc6, ho6⟩)))
          have H6 := (HH5.out.only (τ := ⟨mr, br, lr⟩) ho6 hc6).keep ((Below.refl _ _).alloc (Nat.le_refl _) (.cells #[.int .i64 d0, .int .i64 d1, .int .i64 d2, .int .i64 d3, .int .i64 d4, .int .i64 d5] 41))
          have NL6 := (NL5.out.only ho6 (by have := HLB.out; omega)).keep ((Below.refl _ _).alloc (Nat.le_refl _) (.cells #[.int .i64 d0, .int .i64 d1, .int .i64 d2, .int .i64 d3, .int .i64 d4, .int .i64 d5] 41))
          have NR6 := (Six.new w6 d0 d1 d2 d3 d4 d5 41).toNodeAt
          have HRB := Lib.hid (show rb < w6.heap.size ∧ rb < nb from ⟨Nat.lt_of_lt_of_le HH5.out.z.lt ho6.size, HH5.out.ln⟩)
          clear n0 n1 n2 n3 n4 n5 c0 c1 f1 hc6 ho6 HH5 NL5
          generalize w6.heap.size = rrb at *
          generalize (World.alloc w6 _ : World) = W6 at *
          cases okr
          · have er := HR.out.symm.trans (stp1_right HRR.out)
            clear HR
            have ER := Lib.hid er
            clear er
            obtain ⟨Wf, hWf, zf, cf, of⟩ := H6.no
            obtain ⟨z0, z1, z2, z3, z4, z5, f0, f1, f2, f3, f4, f5⟩ := H6.z
            have HWf := Lib.hid hWf
            clear hWf
            go_wp2_with (fail)
            rw [← HWf.out]
            obtain ⟨r0, r1, r2, r3, r4, r5, -, -, -, -, -, -⟩ := zf
            refine bodyPost_ret (v := .tuple #[.agg #[.int .i64 0, .int .i64 0, .int .i64 0, .int .i64 0, .int .i64 0, .int .i64 0], .bool false]) (by simp [results, Try.results31, go_sem, r0, r1, r2, r3, r4, r5]) rfl (by rw [ER.out]; exact ⟨rfl, cf, of⟩)
          · have er1 := HR.out.symm.trans (stp1_yes HRR.out)
            clear HR
            have FF := Lib.hid (And.intro ((six_far H6.n (show nb ≠ rb from by have := HRB.out; have := HLB.out; omega) (.int .i64 m0) (.int .i64 m1) (.int .i64 m2) (.int .i64 m3) (.int .i64 m4) (.int .i64 m5)).keep ((Below.refl _ _).drew)) (And.intro ((six_far NL6 (show lb ≠ rb from by have := HRB.out; have := HLB.out; omega) (.int .i64 m0) (.int .i64 m1) (.int .i64 m2) (.int .i64 m3) (.int .i64 m4) (.int .i64 m5)).keep ((Below.refl _ _).drew)) ((six_far NR6 (show rrb ≠ rb from by have := HRB.out; have := HLB.out; omega) (.int .i64 m0) (.int .i64 m1) (.int .i64 m2) (.int .i64 m3) (.int .i64 m4) (.int .i64 m5)).keep ((Below.refl _ _).drew))))
            obtain ⟨Wf, hWf, r0, r1, r2, r3, r4, r5, rbl⟩ := H6.z.put (.int .i64 m0) (.int .i64 m1) (.int .i64 m2) (.int .i64 m3) (.int .i64 m4) (.int .i64 m5)
            have HWf := Lib.hid hWf
            obtain ⟨z0, z1, z2, z3, z4, z5, f0, f1, f2, f3, f4, f5⟩ := H6.z
            have HN := And.intro H6.n.all6 (And.intro NL6.c4 (And.intro NL6.c5 (And.intro NR6.c4 NR6.c5)))
            have HH6 := Lib.hid H6
            clear hWf H6 NL6 NR6
            obtain ⟨q1, hq1⟩ : ∃ q, IntKind.i64.wrap (a4 + d4) = q := ⟨_, rfl⟩
            obtain ⟨q2, hq2⟩ : ∃ q, IntKind.i64.wrap (q1 + 1) = q := ⟨_, rfl⟩
            obtain ⟨q3, hq3⟩ : ∃ q, IntKind.i64.wrap (max a5 d5 + 1) = q := ⟨_, rfl⟩
            rw [show wrap64 (a4 + d4) = q1 from wrapI hq1, show wrap64 (q1 + 1) = q2 from wrapI hq2, show wrap64 (max a5 d5 + 1) = q3 from wrapI hq3] at er1
            have ER := Lib.hid er1
            clear er1
            go_upto_region 11 with (fail)
            cases hB : (m4 == q2)
            · skip
              refine wp_region_held_drew (S := (fun V => (V.cell? ⟨nb, 0, none⟩ = some (.int .i64 m0) ∧ V.cell? ⟨nb, 1, none⟩ = some (.int .i64 m1) ∧ V.cell? ⟨nb, 2, none⟩ = some (.int .i64 m2) ∧ V.cell? ⟨nb, 3, none⟩ = some (.int .i64 m3) ∧ V.cell? ⟨nb, 4, none⟩ = some (.int .i64 m4) ∧ V.cell? ⟨nb, 5, none⟩ = some (.int .i64 m5)) ∧ V.cell? ⟨lb, 4, none⟩ = some (.int .i64 a4) ∧ V.cell? ⟨lb, 5, none⟩ = some (.int .i64 a5) ∧ V.cell? ⟨rrb, 4, none⟩ = some (.int .i64 d4) ∧ V.cell? ⟨rrb, 5, none⟩ = some (.int .i64 d5))) (by kernel_rfl) (HN) (fun hHeld => ?_)
              refine wpAnyH_take (i := 0) (v := ?_) rfl (by kernel_rfl) (by kernel_rfl) (by kernel_rfl) (fun _ _ _ h => h) (Or.inl ⟨by rfl, ?_⟩) hHeld ?_
              rotate_left
              · (intro wS hSw; (try dsimp only at hSw); (try go_split_ands); go_simp; try with_reducible rfl)
              try simp only [List.getElem_toArray, List.getElem_cons_succ, List.getElem_cons_zero, Act.put, List.setIfInBounds_toArray, List.set_cons_zero, List.set_cons_succ]
              refine wpAnyH_take (i := 1) (v := ?_) rfl (by kernel_rfl) (by kernel_rfl) (by kernel_rfl) (fun _ _ _ h => h) (Or.inl ⟨by rfl, ?_⟩) hHeld ?_
              rotate_left
              · (intro wS hSw; (try dsimp only at hSw); (try go_split_ands); go_simp; try with_reducible rfl)
              try simp only [List.getElem_toArray, List.getElem_cons_succ, List.getElem_cons_zero, Act.put, List.setIfInBounds_toArray, List.set_cons_zero, List.set_cons_succ]
              refine wpAnyH_take (i := 2) (v := ?_) rfl (by kernel_rfl) (by kernel_rfl) (by kernel_rfl) (fun _ _ _ h => h) (Or.inl ⟨by rfl, ?_⟩) hHeld ?_
              rotate_left
              · (intro wS hSw; (try dsimp only at hSw); (try go_split_ands); go_simp; try with_reducible rfl)
              try simp only [List.getElem_toArray, List.getElem_cons_succ, List.getElem_cons_zero, Act.put, List.setIfInBounds_toArray, List.set_cons_zero, List.set_cons_succ]
              refine wpAnyH_take (i := 3) (v := ?_) rfl (by kernel_rfl) (by kernel_rfl) (by kernel_rfl) (fun _ _ _ h => h) (Or.inl ⟨by rfl, ?_⟩) hHeld ?_
              rotate_left
              · (intro wS hSw; (try dsimp only at hSw); (try go_split_ands); go_simp; try with_reducible rfl)
              try simp only [List.getElem_toArray, List.getElem_cons_succ, List.getElem_cons_zero, Act.put, List.setIfInBounds_toArray, List.set_cons_zero, List.set_cons_succ]
              refine wpAnyH_take (i := 4) (v := ?_) rfl (by kernel_rfl) (by kernel_rfl) (by kernel_rfl) (fun _ _ _ h => h) (Or.inl ⟨by rfl, ?_⟩) hHeld ?_
              rotate_left
              · (intro wS hSw; (try dsimp only at hSw); (try go_split_ands); go_simp; try with_reducible rfl)
              try simp only [List.getElem_toArray, List.getElem_cons_succ, List.getElem_cons_zero, Act.put, List.setIfInBounds_toArray, List.set_cons_zero, List.set_cons_succ]
              refine wpAnyH_take (i := 5) (v := ?_) rfl (by kernel_rfl) (by kernel_rfl) (by kernel_rfl) (fun _ _ _ h => h) (Or.inl ⟨by rfl, ?_⟩) hHeld ?_
              rotate_left
              · (intro wS hSw; (try dsimp only at hSw); (try go_split_ands); go_simp; try with_reducible rfl)
              try simp only [List.getElem_toArray, List.getElem_cons_succ, List.getElem_cons_zero, Act.put, List.setIfInBounds_toArray, List.set_cons_zero, List.set_cons_succ]
              refine wpAnyH_take (i := 6) (v := ?_) rfl (by kernel_rfl) (by kernel_rfl) (by kernel_rfl) (fun _ _ _ h => h) (Or.inl ⟨by rfl, ?_⟩) hHeld ?_
              rotate_left
              · (intro wS hSw; (try dsimp only at hSw); (try go_split_ands); go_simp; try with_reducible rfl)
              try simp only [List.getElem_toArray, List.getElem_cons_succ, List.getElem_cons_zero, Act.put, List.setIfInBounds_toArray, List.set_cons_zero, List.set_cons_succ]
              refine wpAnyH_take (i := 7) (v := ?_) rfl (by kernel_rfl) (by kernel_rfl) (by kernel_rfl) (fun _ _ _ h => h) (Or.inl ⟨by rfl, ?_⟩) hHeld ?_
              rotate_left
              · (intro wS hSw; (try dsimp only at hSw); (try go_split_ands); go_simp; try with_reducible rfl)
              try simp only [List.getElem_toArray, List.getElem_cons_succ, List.getElem_cons_zero, Act.put, List.setIfInBounds_toArray, List.set_cons_zero, List.set_cons_succ]
              refine wpAnyH_take (i := 8) (v := ?_) rfl (by kernel_rfl) (by kernel_rfl) (by kernel_rfl) (fun _ _ _ h => h) (Or.inl ⟨by rfl, ?_⟩) hHeld ?_
              rotate_left
              · (intro wS hSw; (try dsimp only at hSw); (try go_split_ands); go_simp; try with_reducible rfl)
              try simp only [List.getElem_toArray, List.getElem_cons_succ, List.getElem_cons_zero, Act.put, List.setIfInBounds_toArray, List.set_cons_zero, List.set_cons_succ]
              refine wpAnyH_take (i := 9) (v := ?_) rfl (by kernel_rfl) (by kernel_rfl) (by kernel_rfl) (fun _ _ _ h => h) (Or.inl ⟨by rfl, ?_⟩) hHeld ?_
              rotate_left
              · (intro wS hSw; (try dsimp only at hSw); (try go_split_ands); go_simp; try with_reducible rfl)
              try simp only [List.getElem_toArray, List.getElem_cons_succ, List.getElem_cons_zero, Act.put, List.setIfInBounds_toArray, List.set_cons_zero, List.set_cons_succ]
              refine wpAnyH_take (i := 10) (v := ?_) rfl (by kernel_rfl) (by kernel_rfl) (by kernel_rfl) (fun _ _ _ h => h) (Or.inl ⟨by rfl, ?_⟩) hHeld ?_
              rotate_left
              · (intro wS hSw; (try dsimp only at hSw); (try go_split_ands); go_simp; try with_reducible rfl)
              try simp only [List.getElem_toArray, List.getElem_cons_succ, List.getElem_cons_zero, Act.put, List.setIfInBounds_toArray, List.set_cons_zero, List.set_cons_succ]
              refine wpAnyH_take (i := 11) (v := undef) rfl (by kernel_rfl) (by kernel_rfl) (by kernel_rfl) (fun _ _ _ h => h) (Or.inr ⟨by rfl, rfl⟩) hHeld ?_
              try simp only [List.getElem_toArray, List.getElem_cons_succ, List.getElem_cons_zero, Act.put, List.setIfInBounds_toArray, List.set_cons_zero, List.set_cons_succ]
              refine wpAnyH_take (i := 12) (v := undef) rfl (by kernel_rfl) (by kernel_rfl) (by kernel_rfl) (fun _ _ _ h => h) (Or.inr ⟨by rfl, rfl⟩) hHeld ?_
              try simp only [List.getElem_toArray, List.getElem_cons_succ, List.getElem_cons_zero, Act.put, List.setIfInBounds_toArray, List.set_cons_zero, List.set_cons_succ]
              refine wpAnyH_take (i := 13) (v := undef) rfl (by kernel_rfl) (by kernel_rfl) (by kernel_rfl) (fun _ _ _ h => h) (Or.inr ⟨by rfl, rfl⟩) hHeld ?_
              try simp only [List.getElem_toArray, List.getElem_cons_succ, List.getElem_cons_zero, Act.put, List.setIfInBounds_toArray, List.set_cons_zero, List.set_cons_succ]
              refine wpAnyH_take (i := 14) (v := undef) rfl (by kernel_rfl) (by kernel_rfl) (by kernel_rfl) (fun _ _ _ h => h) (Or.inr ⟨by rfl, rfl⟩) hHeld ?_
              try simp only [List.getElem_toArray, List.getElem_cons_succ, List.getElem_cons_zero, Act.put, List.setIfInBounds_toArray, List.set_cons_zero, List.set_cons_succ]
              refine wpAnyH_take (i := 15) (v := undef) rfl (by kernel_rfl) (by kernel_rfl) (by kernel_rfl) (fun _ _ _ h => h) (Or.inr ⟨by rfl, rfl⟩) hHeld ?_
              try simp only [List.getElem_toArray, List.getElem_cons_succ, List.getElem_cons_zero, Act.put, List.setIfInBounds_toArray, List.set_cons_zero, List.set_cons_succ]
              refine wpAnyH_take (i := 16) (v := undef) rfl (by kernel_rfl) (by kernel_rfl) (by kernel_rfl) (fun _ _ _ h => h) (Or.inr ⟨by rfl, rfl⟩) hHeld ?_
              try simp only [List.getElem_toArray, List.getElem_cons_succ, List.getElem_cons_zero, Act.put, List.setIfInBounds_toArray, List.set_cons_zero, List.set_cons_succ]
              refine wpAnyH_take (i := 17) (v := undef) rfl (by kernel_rfl) (by kernel_rfl) (by kernel_rfl) (fun _ _ _ h => h) (Or.inr ⟨by rfl, rfl⟩) hHeld ?_
              try simp only [List.getElem_toArray, List.getElem_cons_succ, List.getElem_cons_zero, Act.put, List.setIfInBounds_toArray, List.set_cons_zero, List.set_cons_succ]
              refine wpAnyH_take (i := 18) (v := undef) rfl (by kernel_rfl) (by kernel_rfl) (by kernel_rfl) (fun _ _ _ h => h) (Or.inr ⟨by rfl, rfl⟩) hHeld ?_
              try simp only [List.getElem_toArray, List.getElem_cons_succ, List.getElem_cons_zero, Act.put, List.setIfInBounds_toArray, List.set_cons_zero, List.set_cons_succ]
              refine wpAnyH_take (i := 19) (v := undef) rfl (by kernel_rfl) (by kernel_rfl) (by kernel_rfl) (fun _ _ _ h => h) (Or.inr ⟨by rfl, rfl⟩) hHeld ?_
              try simp only [List.getElem_toArray, List.getElem_cons_succ, List.getElem_cons_zero, Act.put, List.setIfInBounds_toArray, List.set_cons_zero, List.set_cons_succ]
              refine wpAnyH_take (i := 20) (v := ?_) rfl (by kernel_rfl) (by kernel_rfl) (by kernel_rfl) (fun _ _ _ h => h) (Or.inl ⟨by rfl, ?_⟩) hHeld ?_
              rotate_left
              · (intro wS hSw; (try dsimp only at hSw); (try go_split_ands); go_simp; try with_reducible rfl)
              try simp only [List.getElem_toArray, List.getElem_cons_succ, List.getElem_cons_zero, Act.put, List.setIfInBounds_toArray, List.set_cons_zero, List.set_cons_succ]
              refine wpAnyH_ready (rs := [21]) (by kernel_rfl) (by simp) ?_
              refine AllReadyH.cons rfl (fun K hK => ?_) AllReadyH.nil
              go_simp
              skip
              refine hK.out _ _ ?_ (fun hNext => ?_)
              · exact ⟨FF.out.1.all6, FF.out.2.1.c4, FF.out.2.1.c5, FF.out.2.2.c4, FF.out.2.2.c5⟩
              clear hK K hHeld
              have hHeld := hNext
              clear hNext
              try simp only [List.getElem_toArray, List.getElem_cons_succ, List.getElem_cons_zero, Act.put, List.setIfInBounds_toArray, List.set_cons_zero, List.set_cons_succ]
              refine wpAnyH_take (i := 22) (v := ?_) rfl (by kernel_rfl) (by kernel_rfl) (by kernel_rfl) (fun _ _ _ h => h) (Or.inl ⟨by rfl, ?_⟩) hHeld ?_
              rotate_left
              · (intro wS hSw; (try dsimp only at hSw); (try go_split_ands); go_simp; try with_reducible rfl)
              try simp only [List.getElem_toArray, List.getElem_cons_succ, List.getElem_cons_zero, Act.put, List.setIfInBounds_toArray, List.set_cons_zero, List.set_cons_succ]
              refine wpAnyH_done (by kernel_rfl) ?_ _
              rw [← HWf.out]
              clear z0 z1 z2 z3 z4 z5 f0 f1 f2 f3 f4 f5 HN HWf hHeld FF hq1 hq2 hq3
              go_wp2_with (fail)
              refine bodyPost_ret (v := .tuple #[.agg #[.int .i64 m0, .int .i64 m1, .int .i64 m2, .int .i64 m3, .int .i64 m4, .int .i64 m5], .bool false]) (by simp [results, Try.results31, go_sem, r0, r1, r2, r3, r4, r5]) rfl ?_
              rw [ER.out, hB]
              refine ⟨by simp, ?_, ?_⟩
              · exact (HH6.out.c.only (Only.below' rbl) (by have := HH6.out.lw; omega)).keep ((Below.refl _ _).drew)
              · exact (HH6.out.o.trans (Only.below' rbl) (fun i hi hlt => by have := HH6.out.er; omega)).drew
            · rcases (show (a5 < d5 ∧ max a5 d5 = d5) ∨ (¬ a5 < d5 ∧ max a5 d5 = a5) from by omega) with ⟨hlt5, hmx⟩ | ⟨hlt5, hmx⟩
              · rw [hmx] at hq3
                clear hmx
                refine wp_region_held_drew (S := (fun V => (V.cell? ⟨nb, 0, none⟩ = some (.int .i64 m0) ∧ V.cell? ⟨nb, 1, none⟩ = some (.int .i64 m1) ∧ V.cell? ⟨nb, 2, none⟩ = some (.int .i64 m2) ∧ V.cell? ⟨nb, 3, none⟩ = some (.int .i64 m3) ∧ V.cell? ⟨nb, 4, none⟩ = some (.int .i64 m4) ∧ V.cell? ⟨nb, 5, none⟩ = some (.int .i64 m5)) ∧ V.cell? ⟨lb, 4, none⟩ = some (.int .i64 a4) ∧ V.cell? ⟨lb, 5, none⟩ = some (.int .i64 a5) ∧ V.cell? ⟨rrb, 4, none⟩ = some (.int .i64 d4) ∧ V.cell? ⟨rrb, 5, none⟩ = some (.int .i64 d5))) (by kernel_rfl) (HN) (fun hHeld => ?_)
                refine wpAnyH_take (i := 0) (v := ?_) rfl (by kernel_rfl) (by kernel_rfl) (by kernel_rfl) (fun _ _ _ h => h) (Or.inl ⟨by rfl, ?_⟩) hHeld ?_
                rotate_left
                · (intro wS hSw; (try dsimp only at hSw); (try go_split_ands); go_simp; try with_reducible rfl)
                try simp only [List.getElem_toArray, List.getElem_cons_succ, List.getElem_cons_zero, Act.put, List.setIfInBounds_toArray, List.set_cons_zero, List.set_cons_succ]
                refine wpAnyH_take (i := 1) (v := ?_) rfl (by kernel_rfl) (by kernel_rfl) (by kernel_rfl) (fun _ _ _ h => h) (Or.inl ⟨by rfl, ?_⟩) hHeld ?_
                rotate_left
                · (intro wS hSw; (try dsimp only at hSw); (try go_split_ands); go_simp; try with_reducible rfl)
                try simp only [List.getElem_toArray, List.getElem_cons_succ, List.getElem_cons_zero, Act.put, List.setIfInBounds_toArray, List.set_cons_zero, List.set_cons_succ]
                refine wpAnyH_take (i := 2) (v := ?_) rfl (by kernel_rfl) (by kernel_rfl) (by kernel_rfl) (fun _ _ _ h => h) (Or.inl ⟨by rfl, ?_⟩) hHeld ?_
                rotate_left
                · (intro wS hSw; (try dsimp only at hSw); (try go_split_ands); go_simp; try with_reducible rfl)
                try simp only [List.getElem_toArray, List.getElem_cons_succ, List.getElem_cons_zero, Act.put, List.setIfInBounds_toArray, List.set_cons_zero, List.set_cons_succ]
                refine wpAnyH_take (i := 3) (v := ?_) rfl (by kernel_rfl) (by kernel_rfl) (by kernel_rfl) (fun _ _ _ h => h) (Or.inl ⟨by rfl, ?_⟩) hHeld ?_
                rotate_left
                · (intro wS hSw; (try dsimp only at hSw); (try go_split_ands); go_simp; try with_reducible rfl)
                try simp only [List.getElem_toArray, List.getElem_cons_succ, List.getElem_cons_zero, Act.put, List.setIfInBounds_toArray, List.set_cons_zero, List.set_cons_succ]
                refine wpAnyH_take (i := 4) (v := ?_) rfl (by kernel_rfl) (by kernel_rfl) (by kernel_rfl) (fun _ _ _ h => h) (Or.inl ⟨by rfl, ?_⟩) hHeld ?_
                rotate_left
                · (intro wS hSw; (try dsimp only at hSw); (try go_split_ands); go_simp; try with_reducible rfl)
                try simp only [List.getElem_toArray, List.getElem_cons_succ, List.getElem_cons_zero, Act.put, List.setIfInBounds_toArray, List.set_cons_zero, List.set_cons_succ]
                refine wpAnyH_take (i := 5) (v := ?_) rfl (by kernel_rfl) (by kernel_rfl) (by kernel_rfl) (fun _ _ _ h => h) (Or.inl ⟨by rfl, ?_⟩) hHeld ?_
                rotate_left
                · (intro wS hSw; (try dsimp only at hSw); (try go_split_ands); go_simp; try with_reducible rfl)
                try simp only [List.getElem_toArray, List.getElem_cons_succ, List.getElem_cons_zero, Act.put, List.setIfInBounds_toArray, List.set_cons_zero, List.set_cons_succ]
                refine wpAnyH_take (i := 6) (v := ?_) rfl (by kernel_rfl) (by kernel_rfl) (by kernel_rfl) (fun _ _ _ h => h) (Or.inl ⟨by rfl, ?_⟩) hHeld ?_
                rotate_left
                · (intro wS hSw; (try dsimp only at hSw); (try go_split_ands); go_simp; try with_reducible rfl)
                try simp only [List.getElem_toArray, List.getElem_cons_succ, List.getElem_cons_zero, Act.put, List.setIfInBounds_toArray, List.set_cons_zero, List.set_cons_succ]
                refine wpAnyH_take (i := 7) (v := ?_) rfl (by kernel_rfl) (by kernel_rfl) (by kernel_rfl) (fun _ _ _ h => h) (Or.inl ⟨by rfl, ?_⟩) hHeld ?_
                rotate_left
                · (intro wS hSw; (try dsimp only at hSw); (try go_split_ands); go_simp; try with_reducible rfl)
                try simp only [List.getElem_toArray, List.getElem_cons_succ, List.getElem_cons_zero, Act.put, List.setIfInBounds_toArray, List.set_cons_zero, List.set_cons_succ]
                refine wpAnyH_take (i := 8) (v := ?_) rfl (by kernel_rfl) (by kernel_rfl) (by kernel_rfl) (fun _ _ _ h => h) (Or.inl ⟨by rfl, ?_⟩) hHeld ?_
                rotate_left
                · (intro wS hSw; (try dsimp only at hSw); (try go_split_ands); go_simp; try with_reducible rfl)
                try simp only [List.getElem_toArray, List.getElem_cons_succ, List.getElem_cons_zero, Act.put, List.setIfInBounds_toArray, List.set_cons_zero, List.set_cons_succ]
                refine wpAnyH_take (i := 9) (v := ?_) rfl (by kernel_rfl) (by kernel_rfl) (by kernel_rfl) (fun _ _ _ h => h) (Or.inl ⟨by rfl, ?_⟩) hHeld ?_
                rotate_left
                · (intro wS hSw; (try dsimp only at hSw); (try go_split_ands); go_simp; try with_reducible rfl)
                try simp only [List.getElem_toArray, List.getElem_cons_succ, List.getElem_cons_zero, Act.put, List.setIfInBounds_toArray, List.set_cons_zero, List.set_cons_succ]
                refine wpAnyH_take (i := 10) (v := ?_) rfl (by kernel_rfl) (by kernel_rfl) (by kernel_rfl) (fun _ _ _ h => h) (Or.inl ⟨by rfl, ?_⟩) hHeld ?_
                rotate_left
                · (intro wS hSw; (try dsimp only at hSw); (try go_split_ands); go_simp; try with_reducible rfl)
                try simp only [List.getElem_toArray, List.getElem_cons_succ, List.getElem_cons_zero, Act.put, List.setIfInBounds_toArray, List.set_cons_zero, List.set_cons_succ]
                refine wpAnyH_take (i := 11) (v := ?_) rfl (by kernel_rfl) (by kernel_rfl) (by kernel_rfl) (fun _ _ _ h => h) (Or.inl ⟨by rfl, ?_⟩) hHeld ?_
                rotate_left
                · (intro wS hSw; (try dsimp only at hSw); (try go_split_ands); go_simp; try with_reducible rfl)
                try simp only [List.getElem_toArray, List.getElem_cons_succ, List.getElem_cons_zero, Act.put, List.setIfInBounds_toArray, List.set_cons_zero, List.set_cons_succ]
                refine wpAnyH_take (i := 12) (v := ?_) rfl (by kernel_rfl) (by kernel_rfl) (by kernel_rfl) (fun _ _ _ h => h) (Or.inl ⟨by rfl, ?_⟩) hHeld ?_
                rotate_left
                · (intro wS hSw; (try dsimp only at hSw); (try go_split_ands); go_simp; try with_reducible rfl)
                try simp only [List.getElem_toArray, List.getElem_cons_succ, List.getElem_cons_zero, Act.put, List.setIfInBounds_toArray, List.set_cons_zero, List.set_cons_succ]
                refine wpAnyH_take (i := 13) (v := ?_) rfl (by kernel_rfl) (by kernel_rfl) (by kernel_rfl) (fun _ _ _ h => h) (Or.inl ⟨by rfl, ?_⟩) hHeld ?_
                rotate_left
                · (intro wS hSw; (try dsimp only at hSw); (try go_split_ands); go_simp; try with_reducible rfl)
                try simp only [List.getElem_toArray, List.getElem_cons_succ, List.getElem_cons_zero, Act.put, List.setIfInBounds_toArray, List.set_cons_zero, List.set_cons_succ]
                refine wpAnyH_take (i := 14) (v := ?_) rfl (by kernel_rfl) (by kernel_rfl) (by kernel_rfl) (fun _ _ _ h => h) (Or.inl ⟨by rfl, ?_⟩) hHeld ?_
                rotate_left
                · (intro wS hSw; (try dsimp only at hSw); (try go_split_ands); go_simp; try with_reducible rfl)
                try simp only [List.getElem_toArray, List.getElem_cons_succ, List.getElem_cons_zero, Act.put, List.setIfInBounds_toArray, List.set_cons_zero, List.set_cons_succ]
                refine wpAnyH_take (i := 15) (v := ?_) rfl (by kernel_rfl) (by kernel_rfl) (by kernel_rfl) (fun _ _ _ h => h) (Or.inl ⟨by rfl, ?_⟩) hHeld ?_
                rotate_left
                · (intro wS hSw; (try dsimp only at hSw); (try go_split_ands); go_simp; try with_reducible rfl)
                try simp only [List.getElem_toArray, List.getElem_cons_succ, List.getElem_cons_zero, Act.put, List.setIfInBounds_toArray, List.set_cons_zero, List.set_cons_succ]
                refine wpAnyH_take (i := 16) (v := ?_) rfl (by kernel_rfl) (by kernel_rfl) (by kernel_rfl) (fun _ _ _ h => h) (Or.inl ⟨by rfl, ?_⟩) hHeld ?_
                rotate_left
                · (intro wS hSw; (try dsimp only at hSw); (try go_split_ands); go_simp; try with_reducible rfl)
                try simp only [List.getElem_toArray, List.getElem_cons_succ, List.getElem_cons_zero, Act.put, List.setIfInBounds_toArray, List.set_cons_zero, List.set_cons_succ]
                refine wpAnyH_take (i := 17) (v := ?_) rfl (by kernel_rfl) (by kernel_rfl) (by kernel_rfl) (fun _ _ _ h => h) (Or.inl ⟨by rfl, ?_⟩) hHeld ?_
                rotate_left
                · (intro wS hSw; (try dsimp only at hSw); (try go_split_ands); go_simp; try with_reducible rfl)
                try simp only [List.getElem_toArray, List.getElem_cons_succ, List.getElem_cons_zero, Act.put, List.setIfInBounds_toArray, List.set_cons_zero, List.set_cons_succ]
                refine wpAnyH_take (i := 18) (v := ?_) rfl (by kernel_rfl) (by kernel_rfl) (by kernel_rfl) (fun _ _ _ h => h) (Or.inl ⟨by rfl, ?_⟩) hHeld ?_
                rotate_left
                · (intro wS hSw; (try dsimp only at hSw); (try go_split_ands); go_simp; try with_reducible rfl)
                try simp only [List.getElem_toArray, List.getElem_cons_succ, List.getElem_cons_zero, Act.put, List.setIfInBounds_toArray, List.set_cons_zero, List.set_cons_succ]
                refine wpAnyH_take (i := 19) (v := ?_) rfl (by kernel_rfl) (by kernel_rfl) (by kernel_rfl) (fun _ _ _ h => h) (Or.inl ⟨by rfl, ?_⟩) hHeld ?_
                rotate_left
                · (intro wS hSw; (try dsimp only at hSw); (try go_split_ands); go_simp; try with_reducible rfl)
                try simp only [List.getElem_toArray, List.getElem_cons_succ, List.getElem_cons_zero, Act.put, List.setIfInBounds_toArray, List.set_cons_zero, List.set_cons_succ]
                refine wpAnyH_take (i := 20) (v := ?_) rfl (by kernel_rfl) (by kernel_rfl) (by kernel_rfl) (fun _ _ _ h => h) (Or.inl ⟨by rfl, ?_⟩) hHeld ?_
                rotate_left
                · (intro wS hSw; (try dsimp only at hSw); (try go_split_ands); go_simp; try with_reducible rfl)
                try simp only [List.getElem_toArray, List.getElem_cons_succ, List.getElem_cons_zero, Act.put, List.setIfInBounds_toArray, List.set_cons_zero, List.set_cons_succ]
                refine wpAnyH_ready (rs := [21]) (by kernel_rfl) (by simp) ?_
                refine AllReadyH.cons rfl (fun K hK => ?_) AllReadyH.nil
                go_simp
                skip
                refine hK.out _ _ ?_ (fun hNext => ?_)
                · exact ⟨FF.out.1.all6, FF.out.2.1.c4, FF.out.2.1.c5, FF.out.2.2.c4, FF.out.2.2.c5⟩
                clear hK K hHeld
                have hHeld := hNext
                clear hNext
                try simp only [List.getElem_toArray, List.getElem_cons_succ, List.getElem_cons_zero, Act.put, List.setIfInBounds_toArray, List.set_cons_zero, List.set_cons_succ]
                refine wpAnyH_take (i := 22) (v := ?_) rfl (by kernel_rfl) (by kernel_rfl) (by kernel_rfl) (fun _ _ _ h => h) (Or.inl ⟨by rfl, ?_⟩) hHeld ?_
                rotate_left
                · (intro wS hSw; (try dsimp only at hSw); (try go_split_ands); go_simp; try with_reducible rfl)
                try simp only [List.getElem_toArray, List.getElem_cons_succ, List.getElem_cons_zero, Act.put, List.setIfInBounds_toArray, List.set_cons_zero, List.set_cons_succ]
                refine wpAnyH_done (by kernel_rfl) ?_ _
                rw [← HWf.out]
                clear z0 z1 z2 z3 z4 z5 f0 f1 f2 f3 f4 f5 HN HWf hHeld FF hq1 hq2 hq3
                go_wp2_with (fail)
                refine bodyPost_ret (v := .tuple #[.agg #[.int .i64 m0, .int .i64 m1, .int .i64 m2, .int .i64 m3, .int .i64 m4, .int .i64 m5], .bool (m5 == q3)]) (by simp [results, Try.results31, go_sem, r0, r1, r2, r3, r4, r5]) rfl ?_
                rw [ER.out, hB]
                refine ⟨by simp, ?_, ?_⟩
                · exact (HH6.out.c.only (Only.below' rbl) (by have := HH6.out.lw; omega)).keep ((Below.refl _ _).drew)
                · exact (HH6.out.o.trans (Only.below' rbl) (fun i hi hlt => by have := HH6.out.er; omega)).drew
              · rw [hmx] at hq3
                clear hmx
                refine wp_region_held_drew (S := (fun V => (V.cell? ⟨nb, 0, none⟩ = some (.int .i64 m0) ∧ V.cell? ⟨nb, 1, none⟩ = some (.int .i64 m1) ∧ V.cell? ⟨nb, 2, none⟩ = some (.int .i64 m2) ∧ V.cell? ⟨nb, 3, none⟩ = some (.int .i64 m3) ∧ V.cell? ⟨nb, 4, none⟩ = some (.int .i64 m4) ∧ V.cell? ⟨nb, 5, none⟩ = some (.int .i64 m5)) ∧ V.cell? ⟨lb, 4, none⟩ = some (.int .i64 a4) ∧ V.cell? ⟨lb, 5, none⟩ = some (.int .i64 a5) ∧ V.cell? ⟨rrb, 4, none⟩ = some (.int .i64 d4) ∧ V.cell? ⟨rrb, 5, none⟩ = some (.int .i64 d5))) (by kernel_rfl) (HN) (fun hHeld => ?_)
                refine wpAnyH_take (i := 0) (v := ?_) rfl (by kernel_rfl) (by kernel_rfl) (by kernel_rfl) (fun _ _ _ h => h) (Or.inl ⟨by rfl, ?_⟩) hHeld ?_
                rotate_left
                · (intro wS hSw; (try dsimp only at hSw); (try go_split_ands); go_simp; try with_reducible rfl)
                try simp only [List.getElem_toArray, List.getElem_cons_succ, List.getElem_cons_zero, Act.put, List.setIfInBounds_toArray, List.set_cons_zero, List.set_cons_succ]
                refine wpAnyH_take (i := 1) (v := ?_) rfl (by kernel_rfl) (by kernel_rfl) (by kernel_rfl) (fun _ _ _ h => h) (Or.inl ⟨by rfl, ?_⟩) hHeld ?_
                rotate_left
                · (intro wS hSw; (try dsimp only at hSw); (try go_split_ands); go_simp; try with_reducible rfl)
                try simp only [List.getElem_toArray, List.getElem_cons_succ, List.getElem_cons_zero, Act.put, List.setIfInBounds_toArray, List.set_cons_zero, List.set_cons_succ]
                refine wpAnyH_take (i := 2) (v := ?_) rfl (by kernel_rfl) (by kernel_rfl) (by kernel_rfl) (fun _ _ _ h => h) (Or.inl ⟨by rfl, ?_⟩) hHeld ?_
                rotate_left
                · (intro wS hSw; (try dsimp only at hSw); (try go_split_ands); go_simp; try with_reducible rfl)
                try simp only [List.getElem_toArray, List.getElem_cons_succ, List.getElem_cons_zero, Act.put, List.setIfInBounds_toArray, List.set_cons_zero, List.set_cons_succ]
                refine wpAnyH_take (i := 3) (v := ?_) rfl (by kernel_rfl) (by kernel_rfl) (by kernel_rfl) (fun _ _ _ h => h) (Or.inl ⟨by rfl, ?_⟩) hHeld ?_
                rotate_left
                · (intro wS hSw; (try dsimp only at hSw); (try go_split_ands); go_simp; try with_reducible rfl)
                try simp only [List.getElem_toArray, List.getElem_cons_succ, List.getElem_cons_zero, Act.put, List.setIfInBounds_toArray, List.set_cons_zero, List.set_cons_succ]
                refine wpAnyH_take (i := 4) (v := ?_) rfl (by kernel_rfl) (by kernel_rfl) (by kernel_rfl) (fun _ _ _ h => h) (Or.inl ⟨by rfl, ?_⟩) hHeld ?_
                rotate_left
                · (intro wS hSw; (try dsimp only at hSw); (try go_split_ands); go_simp; try with_reducible rfl)
                try simp only [List.getElem_toArray, List.getElem_cons_succ, List.getElem_cons_zero, Act.put, List.setIfInBounds_toArray, List.set_cons_zero, List.set_cons_succ]
                refine wpAnyH_take (i := 5) (v := ?_) rfl (by kernel_rfl) (by kernel_rfl) (by kernel_rfl) (fun _ _ _ h => h) (Or.inl ⟨by rfl, ?_⟩) hHeld ?_
                rotate_left
                · (intro wS hSw; (try dsimp only at hSw); (try go_split_ands); go_simp; try with_reducible rfl)
                try simp only [List.getElem_toArray, List.getElem_cons_succ, List.getElem_cons_zero, Act.put, List.setIfInBounds_toArray, List.set_cons_zero, List.set_cons_succ]
                refine wpAnyH_take (i := 6) (v := ?_) rfl (by kernel_rfl) (by kernel_rfl) (by kernel_rfl) (fun _ _ _ h => h) (Or.inl ⟨by rfl, ?_⟩) hHeld ?_
                rotate_left
                · (intro wS hSw; (try dsimp only at hSw); (try go_split_ands); go_simp; try with_reducible rfl)
                try simp only [List.getElem_toArray, List.getElem_cons_succ, List.getElem_cons_zero, Act.put, List.setIfInBounds_toArray, List.set_cons_zero, List.set_cons_succ]
                refine wpAnyH_take (i := 7) (v := ?_) rfl (by kernel_rfl) (by kernel_rfl) (by kernel_rfl) (fun _ _ _ h => h) (Or.inl ⟨by rfl, ?_⟩) hHeld ?_
                rotate_left
                · (intro wS hSw; (try dsimp only at hSw); (try go_split_ands); go_simp; try with_reducible rfl)
                try simp only [List.getElem_toArray, List.getElem_cons_succ, List.getElem_cons_zero, Act.put, List.setIfInBounds_toArray, List.set_cons_zero, List.set_cons_succ]
                refine wpAnyH_take (i := 8) (v := ?_) rfl (by kernel_rfl) (by kernel_rfl) (by kernel_rfl) (fun _ _ _ h => h) (Or.inl ⟨by rfl, ?_⟩) hHeld ?_
                rotate_left
                · (intro wS hSw; (try dsimp only at hSw); (try go_split_ands); go_simp; try with_reducible rfl)
                try simp only [List.getElem_toArray, List.getElem_cons_succ, List.getElem_cons_zero, Act.put, List.setIfInBounds_toArray, List.set_cons_zero, List.set_cons_succ]
                refine wpAnyH_take (i := 9) (v := ?_) rfl (by kernel_rfl) (by kernel_rfl) (by kernel_rfl) (fun _ _ _ h => h) (Or.inl ⟨by rfl, ?_⟩) hHeld ?_
                rotate_left
                · (intro wS hSw; (try dsimp only at hSw); (try go_split_ands); go_simp; try with_reducible rfl)
                try simp only [List.getElem_toArray, List.getElem_cons_succ, List.getElem_cons_zero, Act.put, List.setIfInBounds_toArray, List.set_cons_zero, List.set_cons_succ]
                refine wpAnyH_take (i := 10) (v := ?_) rfl (by kernel_rfl) (by kernel_rfl) (by kernel_rfl) (fun _ _ _ h => h) (Or.inl ⟨by rfl, ?_⟩) hHeld ?_
                rotate_left
                · (intro wS hSw; (try dsimp only at hSw); (try go_split_ands); go_simp; try with_reducible rfl)
                try simp only [List.getElem_toArray, List.getElem_cons_succ, List.getElem_cons_zero, Act.put, List.setIfInBounds_toArray, List.set_cons_zero, List.set_cons_succ]
                refine wpAnyH_take (i := 11) (v := ?_) rfl (by kernel_rfl) (by kernel_rfl) (by kernel_rfl) (fun _ _ _ h => h) (Or.inl ⟨by rfl, ?_⟩) hHeld ?_
                rotate_left
                · (intro wS hSw; (try dsimp only at hSw); (try go_split_ands); go_simp; try with_reducible rfl)
                try simp only [List.getElem_toArray, List.getElem_cons_succ, List.getElem_cons_zero, Act.put, List.setIfInBounds_toArray, List.set_cons_zero, List.set_cons_succ]
                refine wpAnyH_take (i := 12) (v := ?_) rfl (by kernel_rfl) (by kernel_rfl) (by kernel_rfl) (fun _ _ _ h => h) (Or.inl ⟨by rfl, ?_⟩) hHeld ?_
                rotate_left
                · (intro wS hSw; (try dsimp only at hSw); (try go_split_ands); go_simp; try with_reducible rfl)
                try simp only [List.getElem_toArray, List.getElem_cons_succ, List.getElem_cons_zero, Act.put, List.setIfInBounds_toArray, List.set_cons_zero, List.set_cons_succ]
                refine wpAnyH_take (i := 13) (v := ?_) rfl (by kernel_rfl) (by kernel_rfl) (by kernel_rfl) (fun _ _ _ h => h) (Or.inl ⟨by rfl, ?_⟩) hHeld ?_
                rotate_left
                · (intro wS hSw; (try dsimp only at hSw); (try go_split_ands); go_simp; try with_reducible rfl)
                try simp only [List.getElem_toArray, List.getElem_cons_succ, List.getElem_cons_zero, Act.put, List.setIfInBounds_toArray, List.set_cons_zero, List.set_cons_succ]
                refine wpAnyH_take (i := 14) (v := ?_) rfl (by kernel_rfl) (by kernel_rfl) (by kernel_rfl) (fun _ _ _ h => h) (Or.inl ⟨by rfl, ?_⟩) hHeld ?_
                rotate_left
                · (intro wS hSw; (try dsimp only at hSw); (try go_split_ands); go_simp; try with_reducible rfl)
                try simp only [List.getElem_toArray, List.getElem_cons_succ, List.getElem_cons_zero, Act.put, List.setIfInBounds_toArray, List.set_cons_zero, List.set_cons_succ]
                refine wpAnyH_take (i := 15) (v := ?_) rfl (by kernel_rfl) (by kernel_rfl) (by kernel_rfl) (fun _ _ _ h => h) (Or.inl ⟨by rfl, ?_⟩) hHeld ?_
                rotate_left
                · (intro wS hSw; (try dsimp only at hSw); (try go_split_ands); go_simp; try with_reducible rfl)
                try simp only [List.getElem_toArray, List.getElem_cons_succ, List.getElem_cons_zero, Act.put, List.setIfInBounds_toArray, List.set_cons_zero, List.set_cons_succ]
                refine wpAnyH_take (i := 16) (v := ?_) rfl (by kernel_rfl) (by kernel_rfl) (by kernel_rfl) (fun _ _ _ h => h) (Or.inl ⟨by rfl, ?_⟩) hHeld ?_
                rotate_left
                · (intro wS hSw; (try dsimp only at hSw); (try go_split_ands); go_simp; try with_reducible rfl)
                try simp only [List.getElem_toArray, List.getElem_cons_succ, List.getElem_cons_zero, Act.put, List.setIfInBounds_toArray, List.set_cons_zero, List.set_cons_succ]
                refine wpAnyH_take (i := 17) (v := ?_) rfl (by kernel_rfl) (by kernel_rfl) (by kernel_rfl) (fun _ _ _ h => h) (Or.inl ⟨by rfl, ?_⟩) hHeld ?_
                rotate_left
                · (intro wS hSw; (try dsimp only at hSw); (try go_split_ands); go_simp; try with_reducible rfl)
                try simp only [List.getElem_toArray, List.getElem_cons_succ, List.getElem_cons_zero, Act.put, List.setIfInBounds_toArray, List.set_cons_zero, List.set_cons_succ]
                refine wpAnyH_take (i := 18) (v := ?_) rfl (by kernel_rfl) (by kernel_rfl) (by kernel_rfl) (fun _ _ _ h => h) (Or.inl ⟨by rfl, ?_⟩) hHeld ?_
                rotate_left
                · (intro wS hSw; (try dsimp only at hSw); (try go_split_ands); go_simp; try with_reducible rfl)
                try simp only [List.getElem_toArray, List.getElem_cons_succ, List.getElem_cons_zero, Act.put, List.setIfInBounds_toArray, List.set_cons_zero, List.set_cons_succ]
                refine wpAnyH_take (i := 19) (v := ?_) rfl (by kernel_rfl) (by kernel_rfl) (by kernel_rfl) (fun _ _ _ h => h) (Or.inl ⟨by rfl, ?_⟩) hHeld ?_
                rotate_left
                · (intro wS hSw; (try dsimp only at hSw); (try go_split_ands); go_simp; try with_reducible rfl)
                try simp only [List.getElem_toArray, List.getElem_cons_succ, List.getElem_cons_zero, Act.put, List.setIfInBounds_toArray, List.set_cons_zero, List.set_cons_succ]
                refine wpAnyH_take (i := 20) (v := ?_) rfl (by kernel_rfl) (by kernel_rfl) (by kernel_rfl) (fun _ _ _ h => h) (Or.inl ⟨by rfl, ?_⟩) hHeld ?_
                rotate_left
                · (intro wS hSw; (try dsimp only at hSw); (try go_split_ands); go_simp; try with_reducible rfl)
                try simp only [List.getElem_toArray, List.getElem_cons_succ, List.getElem_cons_zero, Act.put, List.setIfInBounds_toArray, List.set_cons_zero, List.set_cons_succ]
                refine wpAnyH_ready (rs := [21]) (by kernel_rfl) (by simp) ?_
                refine AllReadyH.cons rfl (fun K hK => ?_) AllReadyH.nil
                go_simp
                skip
                refine hK.out _ _ ?_ (fun hNext => ?_)
                · exact ⟨FF.out.1.all6, FF.out.2.1.c4, FF.out.2.1.c5, FF.out.2.2.c4, FF.out.2.2.c5⟩
                clear hK K hHeld
                have hHeld := hNext
                clear hNext
                try simp only [List.getElem_toArray, List.getElem_cons_succ, List.getElem_cons_zero, Act.put, List.setIfInBounds_toArray, List.set_cons_zero, List.set_cons_succ]
                refine wpAnyH_take (i := 22) (v := ?_) rfl (by kernel_rfl) (by kernel_rfl) (by kernel_rfl) (fun _ _ _ h => h) (Or.inl ⟨by rfl, ?_⟩) hHeld ?_
                rotate_left
                · (intro wS hSw; (try dsimp only at hSw); (try go_split_ands); go_simp; try with_reducible rfl)
                try simp only [List.getElem_toArray, List.getElem_cons_succ, List.getElem_cons_zero, Act.put, List.setIfInBounds_toArray, List.set_cons_zero, List.set_cons_succ]
                refine wpAnyH_done (by kernel_rfl) ?_ _
                rw [← HWf.out]
                clear z0 z1 z2 z3 z4 z5 f0 f1 f2 f3 f4 f5 HN HWf hHeld FF hq1 hq2 hq3
                go_wp2_with (fail)
                refine bodyPost_ret (v := .tuple #[.agg #[.int .i64 m0, .int .i64 m1, .int .i64 m2, .int .i64 m3, .int .i64 m4, .int .i64 m5], .bool (m5 == q3)]) (by simp [results, Try.results31, go_sem, r0, r1, r2, r3, r4, r5]) rfl ?_
                rw [ER.out, hB]
                refine ⟨by simp, ?_, ?_⟩
                · exact (HH6.out.c.only (Only.below' rbl) (by have := HH6.out.lw; omega)).keep ((Below.refl _ _).drew)
                · exact (HH6.out.o.trans (Only.below' rbl) (fun i hi hlt => by have := HH6.out.er; omega)).drew
    · have e : frm L (N + 1) t σ = (Nd.z, false, σ) := if_neg hn
      rw [e]
      exact cfrom_no hg t σ hC hb hl hn
end Go.Proofs.Ytbmlpdkbiipcmaa
