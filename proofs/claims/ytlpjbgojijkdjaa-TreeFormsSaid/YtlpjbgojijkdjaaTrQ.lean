/- tree.Plain of a tree that may be. No condition: lemmas. -/
import Derived.Test.YtlpjbgojijkdjaaTrJ
namespace Go.Proofs.Ytlpjbgojijkdjaa
open Go.RowKit
set_option linter.all false

attribute [local go_sem] mkI_run mkN_run
theorem set_next {lst pre : List Nat} {n x N : Nat} (hnd : pre.Nodup) (hx : pre[n]? = some x) (hxl : x < lst.length) (h : ∀ j y, j < n → pre[j]? = some y → lst[y]? = some j) : ∀ j y, j < n + 1 → pre[j]? = some y → (lst.set x n)[y]? = some j := fun j y hj hy => by
  by_cases e : j = n
  · subst e
    rw [hx] at hy; cases hy
    exact List.getElem?_set_self hxl
  · have hne : x ≠ y := fun e' => e (nodup_at hnd (e' ▸ hy : pre[j]? = some x) hx)
    rw [List.getElem?_set_ne hne]
    exact h j y (by omega) hy
/-- What Plain tells: the tree in its order, in memory of its own. -/
def PlIs (w : World) (P : List Nd) (e : Ending) (w' : World) : Prop := ∃ ao cp, e = .returned (.tuple #[.agg #[.int .i64 0, .slice ao P.length cp], .bool true]) ∧ Ns w' ao cp P ∧ Below w.heap.size w w'
theorem lay_small {N : List Nd} {s : Sh} {t : Int} (h : Tr N s t) (hsm : Small N) : Small (lay N s 0) := by
  refine ⟨by rw [lay_len, h.all]; exact hsm.1, ?_⟩
  have : ∀ (s : Sh) (c : Nat) (t : Int) (lo hi : Option Int), Hangs N s t lo hi → ∀ n ∈ lay N s c, n.p.length ≤ 2100 := by
    intro s
    induction s with
    | lf i =>
      intro c t lo hi h n hn
      obtain ⟨_, m, hm, _⟩ := h
      simp only [lay, List.mem_singleton] at hn
      rw [hn, nd_of hm]; exact hsm.at hm
    | rt i l r ihl ihr =>
      intro c t lo hi h n hn
      obtain ⟨_, m, hm, _, _, hl, hr⟩ := h
      simp only [lay, List.mem_cons, List.mem_append] at hn
      rcases hn with rfl | hn | hn
      · simp
      · exact ihl _ _ _ _ hl n hn
      · exact ihr _ _ _ _ hr n hn
  exact this s 0 t none none h.hg

set_option maxRecDepth 100000 in
set_option maxHeartbeats 12800000 in
theorem tplain_yes (t : Int) (a : Option Addr) (cap : Nat) (N : List Nd) (w : World) (hN : Ns w a cap N) (hsm : Small N) (s : Sh) (h : Tr N s t) :
    Calls Try.prog 11 #[trv t a cap N] w (PlIs w (lay N s 0)) := by
  have hl1 := hsm.1
  have hc1 := hN.1
  have hc2 := hN.2.1
  unfold maxLen at hc2
  have b2 : Below w.heap.size w ((w.alloc (.cells #[.int .i64 t, .slice a N.length cap] 24)).alloc (.cells #[.int .i64 0, .slice none 0 0] 24)) := bel1 (al1 _) _
  have cm := tmay_any t a cap N _ (hN.keep b2) hsm true ⟨fun _ => ⟨s, h⟩, fun _ => rfl⟩
  have B1 := Lib.hid (Bk.past (Bk.new w #[.int .i64 t, .slice a N.length cap] 24) (.cells #[.int .i64 0, .slice none 0 0] 24))
  have B2 := Lib.hid (show Bk ((w.alloc (.cells #[.int .i64 t, .slice a N.length cap] 24)).alloc (.cells #[.int .i64 0, .slice none 0 0] 24)) (w.heap.size + 1) [.int .i64 0, .slice none 0 0] from by
    have h := Bk.new (w.alloc (.cells #[.int .i64 t, .slice a N.length cap] 24)) #[.int .i64 0, .slice none 0 0] 24
    simp only [World.size_alloc] at h; exact h)
  have HB := Lib.hid b2
  have hpl : (([] : List Int) ++ preI s.pre).length = N.length := by simp [preI, h.all]
  have cw := fun (W : World) (hb : Below w.heap.size w W) => (walk_any hN hsm s t none none h.hg W none 0 [] (by have := h.all; simp; omega) hb (Nums.nil _ _)).mono (R' := fun e w' => ∃ ao cap2, e = .returned (.slice ao N.length cap2) ∧ Ws W (.slice none 0 0) w' (.slice ao N.length cap2) (preI s.pre)) (fun e w' hh => by
    obtain ⟨ao, cap2, rfl, hw⟩ := hh
    rw [hpl] at hw ⊢
    exact ⟨ao, cap2, rfl, hw⟩)
  have HN := Lib.hid hN
  have HS := Lib.hid hsm
  have HT := Lib.hid h
  rw [show PlIs w (lay N s 0) = fun e w' => ∃ ao cp, e = .returned (.tuple #[.agg #[.int .i64 0, .slice ao N.length cp], .bool true]) ∧ Ns w' ao cp (lay N s 0) ∧ Below w.heap.size w w' from by unfold PlIs; rw [lay_len, h.all]]
  unfold trv at cm ⊢
  simp only [List.length_nil] at cw
  clear b2 hN h hsm hpl
  go_enter Try.func11, Try.ntmps11
  go_upto_region 4 with (first
    | (go_at_call 16; ((with_reducible refine cm.mono ?_); clear cm; rintro e w3 ⟨rfl, hb3⟩; have R1 := Lib.hid (B1.out.keep hb3); have R2 := Lib.hid (B2.out.keep hb3); have HB3 := Lib.hid (bel2 HB.out hb3); clear hb3; have k0 := R1.out.at_ 0 _ rfl; have k1 := R1.out.at_ 1 _ rfl))
    | (go_at_call 34; ((with_reducible refine (cw _ HB3.out).mono ?_); clear cw; rintro e w4 ⟨ao, cap2, rfl, hw⟩; have HW := Lib.hid hw; clear hw))
    | fail)
  clear k0 k1
  have G1 := Lib.hid (show Bk w4 w.heap.size _ from R1.out.only HW.out.o (by intro hh; exact hh ⟨R1.out.lt, by simp [Value.ownBlock]⟩))
  have G2 := Lib.hid (show Bk w4 (w.heap.size + 1) _ from R2.out.only HW.out.o (by intro hh; exact hh ⟨R2.out.lt, by simp [Value.ownBlock]⟩))
  have HB4 := Lib.hid (HW.out.below HB3.out (Nat.le_refl _) (fun k hk => by simp [Value.ownBlock] at hk))
  have HO := Lib.hid HW.out.n
  have HL4 := Lib.hid HW.out.lt
  clear R1 R2 B1 B2 HB HB3 HW
  go_wp2_with (fail)
  have W5 := Lib.hid (mkI_bk w4 N.length)
  have G1' := Lib.hid (G1.out.past (.cells (mkI N.length) 3))
  have G2' := Lib.hid (G2.out.past (.cells (mkI N.length) 3))
  have HB5 := Lib.hid (bel1 HB4.out (.cells (mkI N.length) 3))
  have HO5 := Lib.hid (HO.out.below (al1 (.cells (mkI N.length) 3)))
  have HQ := Lib.hid (show ∀ k, (Value.slice ao N.length cap2).ownBlock = some k → k ≠ w4.heap.size from fun k hk e => absurd (HL4.out k hk) (by omega))
  have HQ1 := Lib.hid (show w.heap.size ≠ w4.heap.size ∧ w.heap.size + 1 ≠ w4.heap.size ∧ w.heap.size ≤ w4.heap.size from by have := G2.out.lt; omega)
  clear G1 G2 HB4 HO HL4
  obtain ⟨gq, hgq⟩ : ∃ gq, w4.heap.size = gq := ⟨_, rfl⟩
  rw [hgq] at W5 HQ HQ1 ⊢
  clear hgq
  generalize (World.alloc w4 _ : World) = W5w at *
  go_loopw [26] (fun i wr => ∃ (n : Nat) (lst : List Nat), n ≤ N.length ∧ i = .int .i64 n ∧ lst.length = N.length ∧ (∀ j y, j < n → s.pre[j]? = some y → lst[y]? = some j) ∧ Bk wr gq (natV lst) ∧ Only (fun k => k = gq) W5w wr) (fun i _ => N.length - (intOf i).toNat)
  case atStart => exact ⟨0, _, Nat.zero_le _, rfl, List.length_replicate .., fun j y hj => absurd hj (Nat.not_lt_zero j), W5.out, Only.refl _ _⟩
  case round =>
    obtain ⟨n, lst, hn, rfl, hll, hall, hbk, ho⟩ := hrel
    have HA := Lib.hid hall
    have HK := Lib.hid (And.intro hbk ho)
    clear hall hbk ho
    by_cases hlt : n < N.length
    · obtain ⟨x, hx⟩ : ∃ x, s.pre[n]? = some x := ⟨_, List.getElem?_eq_getElem (by rw [HT.out.all]; exact hlt)⟩
      have hxl := HT.out.hg.lt x (List.mem_of_getElem? hx)
      have hxi : (preI s.pre)[n]? = some (x : Int) := by unfold preI; rw [List.getElem?_map, hx]; rfl
      obtain ⟨go, rfl, -, c0⟩ := HO5.out.at hxi
      have c1 := HK.out.2.cell c0 (HQ.out go rfl)
      have hx0 : (0 : Int) ≤ (x : Int) := by omega
      have hx1 : (x : Int) < (N.length : Int) := by omega
      obtain ⟨y, hy⟩ : ∃ y, lst[x]? = some y := ⟨_, List.getElem?_eq_getElem (by omega)⟩
      have c2 := HK.out.1.at_ x _ (natV_get hy)
      have f2 := HK.out.1.fr x
      have HX := Lib.hid hx
      clear hx hxi c0 hy
      go_wp2_with (fail)
      go_roundw
      case rel => exact ⟨n + 1, lst.set x n, by omega, by go_num, by rw [List.length_set]; exact hll, set_next (N := N.length) HT.out.nd HX.out (by omega) HA.out, by have h := HK.out.1.set x (.int .i64 (n : Int)) (by unfold natV; rw [List.length_map]; omega); rw [natV_set] at h; exact h, HK.out.2.setCell (S := fun k => k = gq) (p := ⟨gq, x, none⟩) (.inl rfl) _⟩
      case measure => simp [intOf]; omega
    · obtain rfl : n = N.length := by omega
      have G1 := Lib.hid (G1'.out.only HK.out.2 (by show ¬ (w.heap.size = gq); exact HQ1.out.1))
      have G2 := Lib.hid (G2'.out.only HK.out.2 (by show ¬ (w.heap.size + 1 = gq); exact HQ1.out.2.1))
      have HB6 := Lib.hid (HB5.out.trans (HK.out.2.below (B := w.heap.size) (fun i hi => by rw [hi]; exact HQ1.out.2.2) HB5.out.size))
      have HO6 : ∀ j x : Nat, s.pre[j]? = some x → ∃ go, ao = some ⟨go, 0, none⟩ ∧ wr.cell? ⟨go, j, none⟩ = some (.int .i64 (x : Int)) := fun j x hx => by
        obtain ⟨go, e, _, c0⟩ := HO5.out.at (show (preI s.pre)[j]? = some (x : Int) by unfold preI; rw [List.getElem?_map, hx]; rfl)
        exact ⟨go, e, HK.out.2.cell c0 (HQ.out go (by rw [e]; rfl))⟩
      have HO7 := Lib.hid HO6
      have HK6 := Lib.hid HK.out.1
      clear HO6 G1' G2' HB5 HO5 HK HQ HQ1 W5
      go_wp2_with (fail)
      have R6 := Lib.hid ((NRow.made wr N.length (by omega) (fun k => k = w.heap.size + 1) (fun h => by have := G2.out.lt; omega)).keep (al1 (.cells #[.int .i64 0, .slice (some ⟨wr.heap.size, 0, none⟩) N.length N.length] 24)))
      have P6 := Lib.hid (show Bk ((wr.alloc (.cells (mkN N.length) 51)).alloc (.cells #[.int .i64 0, .slice (some ⟨wr.heap.size, 0, none⟩) N.length N.length] 24)) (wr.heap.size + 1) [.int .i64 0, .slice (some ⟨wr.heap.size, 0, none⟩) N.length N.length] from by
        have h := Bk.new (wr.alloc (.cells (mkN N.length) 51)) #[.int .i64 0, .slice (some ⟨wr.heap.size, 0, none⟩) N.length N.length] 24
        simp only [World.size_alloc] at h; exact h)
      have A6 : Below wr.heap.size wr ((wr.alloc (.cells (mkN N.length) 51)).alloc (.cells #[.int .i64 0, .slice (some ⟨wr.heap.size, 0, none⟩) N.length N.length] 24)) := bel1 (al1 _) _
      have K1 := Lib.hid (G1.out.keep A6)
      have K2 := Lib.hid (G2.out.keep A6)
      have K3 := Lib.hid (HK6.out.keep A6)
      have HB7 := Lib.hid (bel2 HB6.out A6)
      have HO8 : ∀ j x : Nat, s.pre[j]? = some x → ∃ go, ao = some ⟨go, 0, none⟩ ∧ go < wr.heap.size ∧ ((wr.alloc (.cells (mkN N.length) 51)).alloc (.cells #[.int .i64 0, .slice (some ⟨wr.heap.size, 0, none⟩) N.length N.length] 24)).cell? ⟨go, j, none⟩ = some (.int .i64 (x : Int)) := fun j x hx => by
        obtain ⟨go, e, c0⟩ := HO7.out j x hx
        exact ⟨go, e, World.block_lt_of_cell? wr _ c0, kc A6 c0⟩
      have HO9 := Lib.hid HO8
      have HG := Lib.hid (show w.heap.size < wr.heap.size ∧ w.heap.size + 1 < wr.heap.size ∧ gq < wr.heap.size from ⟨G1.out.lt, G2.out.lt, HK6.out.lt⟩)
      clear HO8 A6 HO7 HB6 G1 G2 HK6
      obtain ⟨gp, hgp⟩ : ∃ gp, wr.heap.size = gp := ⟨_, rfl⟩
      rw [hgp] at R6 P6 HO9 HG K1 K2 K3 HB7 ⊢
      clear hgp
      generalize (World.alloc (World.alloc wr _) _ : World) = W6w at *
      go_loopw [42] (fun i wr => ∃ (m : Nat) (M : List RN), m ≤ N.length ∧ i = .int .i64 m ∧ M.length = N.length ∧ (∀ j, j < m → (M.map (fun z => z.n))[j]? = (lay N s 0)[j]?) ∧ NRow wr (fun k => k = w.heap.size + 1) (.slice (some ⟨gp, 0, none⟩) N.length N.length) M ∧ Only (fun k => k = gp) W6w wr) (fun i _ => N.length - (intOf i).toNat)
      case atStart => exact ⟨0, _, Nat.zero_le _, rfl, List.length_replicate .., fun j hj => absurd hj (Nat.not_lt_zero j), R6.out, Only.refl _ _⟩
      case round =>
        obtain ⟨m, M, hm, rfl, hML, hMl, hR, ho⟩ := hrel
        have HA2 := Lib.hid hMl
        have HR := Lib.hid (And.intro hR ho)
        clear hMl hR ho R6
        by_cases hlt2 : m < N.length
        · obtain ⟨x, hx⟩ : ∃ x, s.pre[m]? = some x := ⟨_, List.getElem?_eq_getElem (by rw [HT.out.all]; exact hlt2)⟩
          have hxl := HT.out.hg.lt x (List.mem_of_getElem? hx)
          obtain ⟨go, rfl, hgo, c0⟩ := HO9.out m x hx
          have c1 := HR.out.2.cell c0 (by show ¬ (go = gp); omega)
          have hx0 : (0 : Int) ≤ (x : Int) := by omega
          have hx1 : (x : Int) < (N.length : Int) := by omega
          have hm1 : (m : Int) < (N.length : Int) := by omega
          obtain ⟨n, hn⟩ : ∃ n, N[x]? = some n := ⟨_, List.getElem?_eq_getElem hxl⟩
          have hBw : Below w.heap.size w wr := HB7.out.trans (HR.out.2.below (B := w.heap.size) (fun i hi => by rw [hi]; have := HG.out; omega) HB7.out.size)
          obtain ⟨b, o, pa, pc, rfl, hna⟩ := (HN.out.keep hBw).2.2 x n hn
          have hpl := HS.out.at hn
          have cn := cnode_any n pa pc wr hna.ps (by omega)
          have j1 := (K1.out.only HR.out.2 (by show ¬ (w.heap.size = gp); have := HG.out; omega)).at_ 1 _ rfl
          have J8 := Lib.hid (P6.out.only HR.out.2 (by show ¬ (gp + 1 = gp); omega))
          have J3 := Lib.hid (K3.out.only HR.out.2 (by show ¬ (gq = gp); have := HG.out; omega))
          obtain ⟨m0, hm0⟩ : ∃ m0, M[m]? = some m0 := ⟨_, List.getElem?_eq_getElem (by omega)⟩
          have HM0 := Lib.hid hm0
          have HX := Lib.hid (And.intro hx hn)
          have hlay : (lay N s 0)[m]? = some (fixn (fun y => lst.getD y 0) n) := by
            rw [lay_map (f := fun y => lst.getD y 0) HT.out.hg (fun j y hy => by
              have := HA.out j y (by have := (List.getElem?_eq_some_iff.1 hy).1; rw [HT.out.all] at this; exact this) hy
              simp [List.getD, this])]
            rw [List.getElem?_map, HX.out.1]
            simp only [Option.map_some]
            rw [nd_of HX.out.2]
          have HLY := Lib.hid hlay
          have kid := fun hr => kids HT.out.hg x (List.mem_of_getElem? hx) n hn hr
          have HNA := Lib.hid hna
          obtain ⟨e0, e1, e2, e3, e4, e5, dp⟩ := hna
          clear dp hx hn hm0 c0 hlay
          obtain ⟨r, k, l, b', p, sx⟩ := n
          unfold CnIs ndv at cn
          dsimp only at e0 e1 e2 e3 e4 e5 hpl cn kid
          have fin : ∀ (w7 : World) (ao7 : Option Addr) (cp7 : Nat) (l2 b2 : Int) (W8 : World), PRow w7 (fun j => j < wr.heap.size) (.slice ao7 p.length cp7) p → Below wr.heap.size wr w7 → Below w7.heap.size w7 W8 →
              fixn (fun y => lst.getD y 0) ⟨r, k, l, b', p, sx⟩ = ⟨r, k, l2, b2, p, sx⟩ →
              (∀ j, j < m + 1 → ((M.set m ⟨⟨r, k, l2, b2, p, sx⟩, ao7, cp7⟩).map (fun z => z.n))[j]? = (lay N s 0)[j]?) ∧
              NRow ((((((W8.setCell ⟨gp, m * 6, none⟩ (.bool r)).setCell ⟨gp, m * 6 + 1, none⟩ (.int .i64 k)).setCell ⟨gp, m * 6 + 2, none⟩ (.int .i64 l2)).setCell ⟨gp, m * 6 + 3, none⟩ (.int .i64 b2)).setCell ⟨gp, m * 6 + 4, none⟩ (.slice ao7 p.length cp7)).setCell ⟨gp, m * 6 + 5, none⟩ (.int .i64 sx)) (fun k => k = w.heap.size + 1) (.slice (some ⟨gp, 0, none⟩) N.length N.length) (M.set m ⟨⟨r, k, l2, b2, p, sx⟩, ao7, cp7⟩) ∧
              Only (fun k => k = gp) W6w ((((((W8.setCell ⟨gp, m * 6, none⟩ (.bool r)).setCell ⟨gp, m * 6 + 1, none⟩ (.int .i64 k)).setCell ⟨gp, m * 6 + 2, none⟩ (.int .i64 l2)).setCell ⟨gp, m * 6 + 3, none⟩ (.int .i64 b2)).setCell ⟨gp, m * 6 + 4, none⟩ (.slice ao7 p.length cp7)).setCell ⟨gp, m * 6 + 5, none⟩ (.int .i64 sx)) := by
            intro w7 ao7 cp7 l2 b2 W8 hR7 hb7 hb8 hfx
            refine ⟨fun j hj => ?_, ?_, ?_⟩
            · by_cases e : j = m
              · subst e
                rw [List.getElem?_map, List.getElem?_set_self (by omega), HLY.out, hfx]; rfl
              · rw [List.getElem?_map, List.getElem?_set_ne (fun e' => e e'.symm), ← List.getElem?_map]
                exact HA2.out j (by omega)
            · have hb78 := bel2 hb7 hb8
              exact (HR.out.1.keep hb78).six HM0.out ⟨⟨r, k, l2, b2, p, sx⟩, ao7, cp7⟩ ((hR7.prs rfl).below hb8) (fun _ b o sp e => ⟨fun h => by
                have h1 := hR7.av b (by have e2 : ao7 = some ⟨b, o, sp⟩ := e; rw [e2]; rfl)
                have h2 := P6.out.lt
                have h3 := HR.out.2.size
                have h4 : ¬ b < wr.heap.size := h1
                have h5 := HG.out
                omega, fun e' => by
                have h1 := hR7.av b (by have e2 : ao7 = some ⟨b, o, sp⟩ := e; rw [e2]; rfl)
                have h2 := P6.out.lt
                have h3 := HR.out.2.size
                have h4 : ¬ b < wr.heap.size := h1
                omega⟩)
            · exact only_six (HR.out.2.trans (Only.ofBelow (bel2 hb7 hb8)) (fun i hi _ => hi)) (.inl rfl)
          have FIN := Lib.hid fin
          obtain ⟨g, eg, -, hnm, hfz⟩ := HR.out.1.at HM0.out
          cases eg
          have NM := Lib.hid (And.intro hnm hfz)
          clear fin hnm hfz
          cases r
          · have hfx : fixn (fun y => lst.getD y 0) ⟨false, k, l, b', p, sx⟩ = ⟨false, k, l, b', p, sx⟩ := fixn_lf rfl
            have HFX := Lib.hid hfx
            clear hfx kid
            go_upto_region 17 with (go_at_call 35; ((with_reducible refine cn.mono ?_); clear cn; rintro e w7 ⟨ao7, cp7, rfl, hR7, hb7⟩; have H7 := Lib.hid (And.intro hR7 hb7); clear hR7 hb7))
            have j8 := ((J8.out.keep H7.out.2).past (.cells #[.bool false, .int .i64 k, .int .i64 l, .int .i64 b', .slice ao7 p.length cp7, .int .i64 sx] 51)).at_ 1 _ rfl
            obtain ⟨x0, x1, x2, x3, x4, x5, -⟩ := (NM.out.1.keep H7.out.2).keep (al1 (.cells #[.bool false, .int .i64 k, .int .i64 l, .int .i64 b', .slice ao7 p.length cp7, .int .i64 sx] 51))
            have fz := fun j => (((Bk.keep ⟨Nat.lt_of_lt_of_le (Nat.lt_of_succ_lt P6.out.lt) HR.out.2.size, fun j v hj => (by cases hj), NM.out.2⟩ H7.out.2 : Bk _ gp []).past (.cells #[.bool false, .int .i64 k, .int .i64 l, .int .i64 b', .slice ao7 p.length cp7, .int .i64 sx] 51)).fr j)
            clear e0 e1 e2 e3 e4 e5 c1 j1
            go_wp2_with (fail)
            go_roundw
            case rel =>
              obtain ⟨h1, h2, h3⟩ := FIN.out w7 ao7 cp7 l b' _ H7.out.1 H7.out.2 (al1 (.cells #[.bool false, .int .i64 k, .int .i64 l, .int .i64 b', .slice ao7 p.length cp7, .int .i64 sx] 51)) HFX.out
              exact ⟨m + 1, _, by omega, by go_num, by rw [List.length_set]; exact hML, h1, h2, h3⟩
            case measure => simp [intOf]; omega
          · obtain ⟨xa, xb, rfl, rfl, hxa, hxb⟩ := kid rfl
            have hxal := HT.out.hg.lt xa hxa
            have hxbl := HT.out.hg.lt xb hxb
            obtain ⟨ya, hya⟩ : ∃ y, lst[xa]? = some y := ⟨_, List.getElem?_eq_getElem (by omega)⟩
            obtain ⟨yb, hyb⟩ : ∃ y, lst[xb]? = some y := ⟨_, List.getElem?_eq_getElem (by omega)⟩
            have hfx : fixn (fun y => lst.getD y 0) ⟨true, k, xa, xb, p, sx⟩ = ⟨true, k, ya, yb, p, sx⟩ := by
              rw [fixn_rt rfl]; simp [List.getD, hya, hyb]
            have HFX := Lib.hid hfx
            have HYA := Lib.hid (And.intro (natV_get hya) (natV_get hyb))
            have xa1 : (xa : Int) < (N.length : Int) := by omega
            have xb1 : (xb : Int) < (N.length : Int) := by omega
            have xa0 : (0 : Int) ≤ (xa : Int) := by omega
            have xb0 : (0 : Int) ≤ (xb : Int) := by omega
            clear hfx kid hya hyb hxa hxb
            go_upto_region 16 with (go_at_call 35; ((with_reducible refine cn.mono ?_); clear cn; rintro e w7 ⟨ao7, cp7, rfl, hR7, hb7⟩; have H7 := Lib.hid (And.intro hR7 hb7); clear hR7 hb7))
            have J9 := Lib.hid ((J3.out.keep H7.out.2).past (.cells #[.bool true, .int .i64 k, .int .i64 (xa : Int), .int .i64 (xb : Int), .slice ao7 p.length cp7, .int .i64 sx] 51))
            have ca := J9.out.at_ xa _ HYA.out.1
            have cb := J9.out.at_ xb _ HYA.out.2
            have ca2 := ((J3.out.keep H7.out.2).past (.cells #[.bool true, .int .i64 k, .int .i64 (xa : Int), .int .i64 (yb : Int), .slice ao7 p.length cp7, .int .i64 sx] 51)).at_ xa _ HYA.out.1
            have cb2 := ((J3.out.keep H7.out.2).past (.cells #[.bool true, .int .i64 k, .int .i64 (ya : Int), .int .i64 (xb : Int), .slice ao7 p.length cp7, .int .i64 sx] 51)).at_ xb _ HYA.out.2
            clear e0 e1 e2 e3 e4 e5 c1 j1
            go_wp2_with (fail)
            go_region
            have j8 := ((J8.out.keep H7.out.2).past (.cells #[.bool true, .int .i64 k, .int .i64 (ya : Int), .int .i64 (yb : Int), .slice ao7 p.length cp7, .int .i64 sx] 51)).at_ 1 _ rfl
            obtain ⟨x0, x1, x2, x3, x4, x5, -⟩ := (NM.out.1.keep H7.out.2).keep (al1 (.cells #[.bool true, .int .i64 k, .int .i64 (ya : Int), .int .i64 (yb : Int), .slice ao7 p.length cp7, .int .i64 sx] 51))
            have fz := fun j => (((Bk.keep ⟨Nat.lt_of_lt_of_le (Nat.lt_of_succ_lt P6.out.lt) HR.out.2.size, fun j v hj => (by cases hj), NM.out.2⟩ H7.out.2 : Bk _ gp []).past (.cells #[.bool true, .int .i64 k, .int .i64 (ya : Int), .int .i64 (yb : Int), .slice ao7 p.length cp7, .int .i64 sx] 51)).fr j)
            go_wp2_with (fail)
            go_roundw
            case rel =>
              obtain ⟨h1, h2, h3⟩ := FIN.out w7 ao7 cp7 ya yb (w7.alloc (.cells #[.bool true, .int .i64 k, .int .i64 (ya : Int), .int .i64 (yb : Int), .slice ao7 p.length cp7, .int .i64 sx] 51)) H7.out.1 H7.out.2 (al1 (.cells #[.bool true, .int .i64 k, .int .i64 (ya : Int), .int .i64 (yb : Int), .slice ao7 p.length cp7, .int .i64 sx] 51)) HFX.out
              exact ⟨m + 1, _, by omega, by go_num, by rw [List.length_set]; exact hML, h1, h2.drew, h3.drew⟩
            case measure => simp [intOf]; omega
        · obtain rfl : m = N.length := by omega
          have hfin : M.map (fun z => z.n) = lay N s 0 := by
            apply List.ext_getElem?
            intro j
            by_cases hj : j < N.length
            · exact HA2.out j hj
            · rw [List.getElem?_eq_none (by rw [List.length_map]; omega), List.getElem?_eq_none (by rw [lay_len, HT.out.all]; omega)]
          have J8 := Lib.hid (P6.out.only HR.out.2 (by show ¬ (gp + 1 = gp); omega))
          have J2 := Lib.hid (K2.out.only HR.out.2 (by show ¬ (w.heap.size + 1 = gp); have := HG.out; omega))
          have p0 := J8.out.at_ 0 _ rfl
          have p1 := J8.out.at_ 1 _ rfl
          have r0 := J2.out.at_ 0 _ rfl
          have r1 := J2.out.at_ 1 _ rfl
          have f0 := J2.out.fr 0
          have f1 := J2.out.fr 1
          have hBw : Below w.heap.size w wr := HB7.out.trans (HR.out.2.below (B := w.heap.size) (fun i hi => by rw [hi]; have := HG.out; omega) HB7.out.size)
          have HF := Lib.hid (And.intro hfin hBw)
          clear hfin hBw
          go_wp2_with (fail)
          refine bodyPost_ret (v := .tuple #[.agg #[.int .i64 0, .slice (some ⟨gp, 0, none⟩) N.length N.length], .bool true]) (by simp [results, Try.results11, go_sem, r0, r1]) rfl ⟨_, _, rfl, ?_, ?_⟩
          · have hn := (HR.out.1.only (S := fun k => k = w.heap.size + 1) (W' := (wr.setCell ⟨w.heap.size + 1, 0, none⟩ (.int .i64 0)).setCell ⟨w.heap.size + 1, 1, none⟩ (.slice (some ⟨gp, 0, none⟩) N.length N.length)) (((Only.refl _ wr).setCell (S := fun k => k = w.heap.size + 1) (p := ⟨w.heap.size + 1, 0, none⟩) (.inl rfl) _).setCell (S := fun k => k = w.heap.size + 1) (p := ⟨w.heap.size + 1, 1, none⟩) (.inl rfl) _) (fun k hk => hk)).ns.2
            rw [HF.out.1] at hn
            exact hn
          · repeat' (first | refine Below.setCell ?_ (by dsimp only; omega) _ | exact HF.out.2)

#print axioms tplain_yes
end Go.Proofs.Ytlpjbgojijkdjaa
