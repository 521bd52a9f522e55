/- osierref1.Path exactly. No condition: lemmas. -/
import Derived.Test.YtlpjbgojijkdjaaTrP
import Derived.Test.YtlpjbgojijkdjaaTrU
namespace Go.Proofs.Ytlpjbgojijkdjaa
open Go.RowKit
set_option linter.all false

/-- The way so far. -/
structure Pt (W1 wr : World) (vu vd : Value) (U : List Int) (D : List Bool) : Prop where
  u : Nums wr (fun k => k < W1.heap.size) vu U
  d : Bools wr (fun k => k < W1.heap.size) vd D
  ne : ∀ k, vu.ownBlock = some k → vd.ownBlock ≠ some k
  o : Below W1.heap.size W1 wr
/-- What Path tells. -/
def PhIs (w : World) (d : Dn) (e : Ending) (w' : World) : Prop :=
  ∃ au cu ad cd, e = .returned (.tuple #[.int .i64 d.i, .slice au d.u.length cu, .slice ad d.u.length cd]) ∧ RI w' au cu (preI d.u) ∧ RB w' ad cd d.d ∧ Below w.heap.size w w'
/-- The way so far, beside a node's box. -/
structure PX (W1 : World) (q7 : Nat) (cs : List Value) (W : World) (vu vd : Value) (U : List Int) (D : List Bool) : Prop where
  p : Pt W1 W vu vd U D
  x : Bk W q7 cs
  xu : vu.ownBlock ≠ some q7
  xd : vd.ownBlock ≠ some q7
section
variable {W1 W W2 : World} {q7 : Nat} {cs : List Value} {vu vd vu' vd' : Value} {U U' : List Int} {D D' : List Bool}
theorem Pt.keep (h : Pt W1 W vu vd U D) (hb : Below W.heap.size W W2) : Pt W1 W2 vu vd U D := ⟨h.u.below hb, h.d.below hb, h.ne, bel2 h.o hb⟩
theorem PX.keep (h : PX W1 q7 cs W vu vd U D) (hb : Below W.heap.size W W2) : PX W1 q7 cs W2 vu vd U D := ⟨h.p.keep hb, h.x.keep hb, h.xu, h.xd⟩
theorem own_tk {v v' : Value} (h : ∀ k, v'.ownBlock = some k → ¬ Tk W v k) (k : Nat) (hk : v'.ownBlock = some k) : v.ownBlock = some k ∨ W.heap.size ≤ k := by
  have := h k hk
  unfold Tk at this
  rcases Classical.em (v.ownBlock = some k) with h' | h'
  · exact .inl h'
  · exact .inr (by
      rcases Nat.lt_or_ge k W.heap.size with h2 | h2
      · exact absurd ⟨h2, h'⟩ this
      · exact h2)
theorem PX.pushU (h : PX W1 q7 cs W vu vd U D) (hN : Nums W2 (Tk W vu) vu' U') (hO : Only (fun k => ¬ Tk W vu k) W W2) : PX W1 q7 cs W2 vu' vd U' D := by
  have own := own_tk hN.av
  have hd : ∀ k, vd.ownBlock = some k → Tk W vu k := fun k hk => ⟨(h.p.d.row.lt k hk).2, fun e => h.p.ne k e hk⟩
  have low : ∀ k, ¬ Tk W vu k → W1.heap.size ≤ k := fun k hk => by
    rcases Nat.lt_or_ge k W1.heap.size with h2 | h2
    · exact absurd ⟨Nat.lt_of_lt_of_le h2 h.p.o.size, fun e => h.p.u.av k e h2⟩ hk
    · exact h2
  refine ⟨⟨hN.sub (fun k _ hk => ?_), ⟨hO.row h.p.d.row (fun k hk hh => hh (hd k hk)), h.p.d.av⟩, fun k hk e => ?_, h.p.o.trans (hO.below (B := W1.heap.size) low h.p.o.size)⟩, h.x.only hO (fun hh => hh ⟨h.x.lt, h.xu⟩), fun e => ?_, h.xd⟩
  · exact Classical.byContradiction (fun hh => absurd (low k hh) (by omega))
  · rcases own k hk with e' | e'
    · exact h.p.ne k e' e
    · have := (h.p.d.row.lt k e).2; omega
  · rcases own q7 e with e' | e'
    · exact h.xu e'
    · have := h.x.lt; omega
theorem PX.pushD (h : PX W1 q7 cs W vu vd U D) (hN : Bools W2 (Tk W vd) vd' D') (hO : Only (fun k => ¬ Tk W vd k) W W2) : PX W1 q7 cs W2 vu vd' U D' := by
  have own := own_tk hN.av
  have hu : ∀ k, vu.ownBlock = some k → Tk W vd k := fun k hk => ⟨(h.p.u.row.lt k hk).2, h.p.ne k hk⟩
  have low : ∀ k, ¬ Tk W vd k → W1.heap.size ≤ k := fun k hk => by
    rcases Nat.lt_or_ge k W1.heap.size with h2 | h2
    · exact absurd ⟨Nat.lt_of_lt_of_le h2 h.p.o.size, fun e => h.p.d.av k e h2⟩ hk
    · exact h2
  refine ⟨⟨⟨hO.row h.p.u.row (fun k hk hh => hh (hu k hk)), h.p.u.av⟩, hN.sub (fun k _ hk => ?_), fun k hk e => ?_, h.p.o.trans (hO.below (B := W1.heap.size) low h.p.o.size)⟩, h.x.only hO (fun hh => hh ⟨h.x.lt, h.xd⟩), h.xu, fun e => ?_⟩
  · exact Classical.byContradiction (fun hh => absurd (low k hh) (by omega))
  · rcases own k e with e' | e'
    · exact h.p.ne k hk e'
    · have := (h.p.u.row.lt k hk).2; omega
  · rcases own q7 e with e' | e'
    · exact h.xd e'
    · have := h.x.lt; omega
theorem src_bkI {g : Nat} {x : Int} (h : Bk W g [.int .i64 x]) : Source W (.slice (some ⟨g, 0, none⟩) 1 1) [x].length (cellsI [x]) :=
  .inr ⟨_, _, rfl, fun j u hj => by
    rw [show (⟨g, 0, none⟩ : Addr).add j = ⟨g, j, none⟩ from by unfold Addr.add; split <;> simp_all]
    exact h.at_ j u hj⟩
theorem src_bkB {g : Nat} {x : Bool} (h : Bk W g [.bool x]) : Source W (.slice (some ⟨g, 0, none⟩) 1 1) [x].length (cellsB [x]) :=
  .inr ⟨_, _, rfl, fun j u hj => by
    rw [show (⟨g, 0, none⟩ : Addr).add j = ⟨g, j, none⟩ from by unfold Addr.add; split <;> simp_all]
    exact h.at_ j u hj⟩
end
set_option maxRecDepth 100000 in
set_option maxHeartbeats 12800000 in
theorem rpath_any (t key : Int) (a : Option Addr) (cap : Nat) (N : List Nd) (w : World) (hN : Ns w a cap N) (hsm : Small N) (s : Sh) (h : Tr N s t) :
    Calls Try.prog 28 #[trv t a cap N, .int .i64 key] w (PhIs w (dn N key s)) := by
  have hl1 := hsm.1
  have hc1 := hN.1
  have hc2 := hN.2.1
  unfold maxLen at hc2
  have B1 := Lib.hid (Bk.new w #[.int .i64 t, .slice a N.length cap] 24)
  have HB := Lib.hid (show Below w.heap.size w (w.alloc (.cells #[.int .i64 t, .slice a N.length cap] 24)) from al1 _)
  have HN := Lib.hid hN
  have HS := Lib.hid hsm
  have HT := Lib.hid h
  have k0 := B1.out.at_ 0 _ rfl
  unfold trv
  clear hN h hsm
  go_enter Try.func28, Try.ntmps28
  go_wp2_with (fail)
  clear k0
  go_loopg [7, 8, 9] s.pre.length (fun g at_ vu vd wr => ∃ (z : Sh) (lo hi : Option Int) (U : List Int) (D : List Bool) (au ad : Option Addr) (nu cu cd : Nat), g = z.pre.length ∧ at_ = .int .i64 (z.top : Int) ∧ vu = .slice au nu cu ∧ vd = .slice ad nu cd ∧ Hangs N z z.top lo hi ∧ nu = U.length ∧ nu = D.length ∧ U ++ preI (dn N key z).u = preI (dn N key s).u ∧ D ++ (dn N key z).d = (dn N key s).d ∧ (dn N key z).i = (dn N key s).i ∧ Pt (w.alloc (.cells #[.int .i64 t, .slice a N.length cap] 24)) wr (.slice au nu cu) (.slice ad nu cd) U D)
  case atStart =>
    have ht := HT.out.hg.top
    refine ⟨s, none, none, [], [], none, none, 0, 0, 0, rfl, by rw [← ht], rfl, rfl, ht ▸ HT.out.hg, rfl, rfl, rfl, rfl, rfl, Nums.nil _ _, Bools.nil _ _, fun k hk => by simp [Value.ownBlock] at hk, Below.refl _ _⟩
  case round =>
    obtain ⟨z, lo, hi, U, D, au, ad, nu, cu, cd, rfl, rfl, rfl, rfl, hh, hU, hD, eU, eD, eI, hF⟩ := hrel
    have hul : nu ≤ 460 := by
      have h1 := congrArg List.length eU
      simp [preI] at h1
      have h2 := dn_ulen N key s
      have h3 := HT.out.all
      omega
    have hBw : Below w.heap.size w wr := bel2 HB.out hF.o
    have FF := Lib.hid hF
    have EE := Lib.hid (And.intro eU (And.intro eD eI))
    have HU := Lib.hid (And.intro hU hD)
    have j0 := (B1.out.keep hF.o).at_ 0 _ rfl
    have j1 := (B1.out.keep hF.o).at_ 1 _ rfl
    have hx0 : (0 : Int) ≤ (z.top : Int) := by omega
    have hxl := hh.lt _ z.top_mem
    have hx1 : (z.top : Int) < (N.length : Int) := by omega
    have HBw := Lib.hid hBw
    have HH := Lib.hid hh
    obtain ⟨n, hn⟩ := hh.get
    have hpl := HS.out.at hn
    obtain ⟨b, o, pa, pc, rfl, hna⟩ := (HN.out.keep hBw).2.2 z.top n hn
    clear hF hBw eU eD eI hU hD hh
    obtain ⟨e0, e1, e2, e3, e4, e5, dp⟩ := hna
    clear dp
    cases z with
    | lf i =>
      have hr : n.r = false := by
        obtain ⟨_, n', hn', hr', _⟩ := HH.out
        have : n' = n := by rw [show N[i]? = some n from hn] at hn'; cases hn'; rfl
        rw [← this]; exact hr'
      rw [hr] at e0
      clear hn hpl hr e1 e2 e3 e4 e5
      go_wp2_with (fail)
      refine bodyPost_ret (v := .tuple #[.int .i64 (Sh.lf i).top, .slice au nu cu, .slice ad nu cd]) (by simp [results, Try.results28, go_sem]) rfl ?_
      obtain ⟨eU, eD, eI⟩ := EE.out
      have eU' : U = preI (dn N key s).u := by rw [← eU]; simp [dn, preI]
      have eD' : D = (dn N key s).d := by rw [← eD]; simp [dn]
      have eI' : (Sh.lf i).top = (dn N key s).i := eI
      have eN : nu = (dn N key s).u.length := by rw [HU.out.1, eU']; simp [preI]
      have hu := FF.out.u.ri
      have hd := FF.out.d.rb
      rw [eU'] at hu
      rw [eD'] at hd
      rw [eI', eN]
      exact ⟨au, cu, ad, cd, rfl, hu, hd, HBw.out⟩
    | rt i zl zr =>
      obtain ⟨-, n', hn', hr, -, hl, hrr⟩ := HH.out
      obtain rfl : n = n' := by rw [show N[i]? = some n from hn] at hn'; cases hn'; rfl
      have hkY := fun h => dn_rt_yes (N := N) (key := key) (i := i) (zl := zl) (zr := zr) (n := n) hn h
      have hkN := fun h => dn_rt_no (N := N) (key := key) (i := i) (zl := zl) (zr := zr) (n := n) hn h
      obtain ⟨r, k, l, b', p, sx⟩ := n
      dsimp only at hr hl hrr e0 e1 e2 e3 e4 e5 hkY hkN hpl
      subst hr
      have hlt := hl.top
      have hrt := hrr.top
      --REG6
      by_cases hk : k ≤ key
      · skip
        have hk1 : decide (k ≤ key) = true := decide_eq_true hk
        have hk2 : decide (key < k) = false := decide_eq_false (by omega)
        have eK := hkY hk
        rw [eK] at EE
        have HZ := Lib.hid (show Hangs N zr (zr.top : Int) _ _ from hrt ▸ hrr)
        subst hlt
        subst hrt
        have PX7 := Lib.hid (show PX (w.alloc (.cells #[.int .i64 t, .slice (some ⟨b, o, none⟩) N.length cap] 24)) wr.heap.size [.bool true, .int .i64 k, .int .i64 (zl.top : Int), .int .i64 (zr.top : Int), .slice pa p.length pc, .int .i64 sx] (wr.alloc (.cells #[.bool true, .int .i64 k, .int .i64 (zl.top : Int), .int .i64 (zr.top : Int), .slice pa p.length pc, .int .i64 sx] 51)) (.slice au nu cu) (.slice ad nu cd) U D from
          ⟨FF.out.keep (al1 _), Bk.new wr #[.bool true, .int .i64 k, .int .i64 (zl.top : Int), .int .i64 (zr.top : Int), .slice pa p.length pc, .int .i64 sx] 51, fun e => absurd (FF.out.u.row.lt _ e).2 (Nat.lt_irrefl _), fun e => absurd (FF.out.d.row.lt _ e).2 (Nat.lt_irrefl _)⟩)
        go_upto_region 6 with (fail)
        rw [show ((Sh.rt i zl zr).top : Int) = (i : Int) from rfl]
        obtain ⟨q7, hq7⟩ : ∃ q, wr.heap.size = q := ⟨_, rfl⟩
        rw [hq7] at PX7 ⊢
        clear hq7 e0 e1 e2 e3 e4 e5 j0 j1 eK hkY hkN hl hrr hpl
        generalize (World.alloc wr _ : World) = W7 at *
        have HL := Lib.hid (show U.length + [(i : Int)].length ≤ 1000000 by have := HU.out.1; simp; omega)
        have HE := Lib.hid (show U.length + [(i : Int)].length = nu + 1 by have := HU.out.1; simp; omega)
        have HLd := Lib.hid (show D.length + [true].length ≤ 1000000 by have := HU.out.2; simp; omega)
        have HEd := Lib.hid (show D.length + [true].length = nu + 1 by have := HU.out.2; simp; omega)
        refine wp_region_held_drew (S := (fun W => W.cell? ⟨q7, 1, none⟩ = some (.int .i64 k))) (by kernel_rfl) (PX7.out.x.at_ 1 _ rfl) (fun hHeld => ?_)
        have PXc := Lib.hid (PX7.out.keep (Below.refl _ _).drew)
        clear PX7
        generalize (World.drew W7 : World) = Wd at *
        refine wpAnyH_take (i := 0) (v := ?_) rfl (by kernel_rfl) (by kernel_rfl) (by kernel_rfl) (fun _ _ _ h => h) (Or.inl ⟨by rfl, ?_⟩) hHeld ?_
        rotate_left
        · (intro wS hSw; (try dsimp only at hSw); (try go_split_ands); go_simp; try with_reducible rfl)
        try simp only [List.getElem_toArray, List.getElem_cons_succ, List.getElem_cons_zero, Act.put, List.setIfInBounds_toArray, List.set_cons_zero, List.set_cons_succ]
        refine wpAnyH_take (i := 1) (v := ?_) rfl (by kernel_rfl) (by kernel_rfl) (by kernel_rfl) (fun _ _ _ h => h) (Or.inl ⟨by rfl, ?_⟩) hHeld ?_
        rotate_left
        · (intro wS hSw; (try dsimp only at hSw); (try go_split_ands); go_simp; try with_reducible rfl)
        try simp only [List.getElem_toArray, List.getElem_cons_succ, List.getElem_cons_zero, Act.put, List.setIfInBounds_toArray, List.set_cons_zero, List.set_cons_succ]
        refine wpAnyH_take (i := 4) (v := ?_) rfl (by kernel_rfl) (by kernel_rfl) (by kernel_rfl) (fun _ _ _ h => h) (Or.inl ⟨by rfl, ?_⟩) hHeld ?_
        rotate_left
        · (intro wS hSw; (try dsimp only at hSw); (try go_split_ands); go_simp; try with_reducible rfl)
        try simp only [List.getElem_toArray, List.getElem_cons_succ, List.getElem_cons_zero, Act.put, List.setIfInBounds_toArray, List.set_cons_zero, List.set_cons_succ]
        refine wpAnyH_take (i := 5) (v := ?_) rfl (by kernel_rfl) (by kernel_rfl) (by kernel_rfl) (fun _ _ _ h => h) (Or.inl ⟨by rfl, ?_⟩) hHeld ?_
        rotate_left
        · (intro wS hSw; (try dsimp only at hSw); (try go_split_ands); go_simp; try with_reducible rfl)
        try simp only [List.getElem_toArray, List.getElem_cons_succ, List.getElem_cons_zero, Act.put, List.setIfInBounds_toArray, List.set_cons_zero, List.set_cons_succ]
        refine wpAnyH_take (i := 6) (v := ?_) rfl (by kernel_rfl) (by kernel_rfl) (by kernel_rfl) (fun _ _ _ h => h) (Or.inl ⟨by rfl, ?_⟩) hHeld ?_
        rotate_left
        · (intro wS hSw; (try dsimp only at hSw); (try go_split_ands); go_simp; try with_reducible rfl)
        try simp only [List.getElem_toArray, List.getElem_cons_succ, List.getElem_cons_zero, Act.put, List.setIfInBounds_toArray, List.set_cons_zero, List.set_cons_succ]
        refine wpAnyH_take (i := 7) (v := ?_) rfl (by kernel_rfl) (by kernel_rfl) (by kernel_rfl) (fun _ _ _ h => h) (Or.inl ⟨by rfl, ?_⟩) hHeld ?_
        rotate_left
        · (intro wS hSw; (try dsimp only at hSw); (try go_split_ands); go_simp; try with_reducible rfl)
        try simp only [List.getElem_toArray, List.getElem_cons_succ, List.getElem_cons_zero, Act.put, List.setIfInBounds_toArray, List.set_cons_zero, List.set_cons_succ]
        refine wpAnyH_take (i := 8) (v := ?_) rfl (by kernel_rfl) (by kernel_rfl) (by kernel_rfl) (fun _ _ _ h => h) (Or.inl ⟨by rfl, ?_⟩) hHeld ?_
        rotate_left
        · (intro wS hSw; (try dsimp only at hSw); (try go_split_ands); go_simp; try with_reducible rfl)
        try simp only [List.getElem_toArray, List.getElem_cons_succ, List.getElem_cons_zero, Act.put, List.setIfInBounds_toArray, List.set_cons_zero, List.set_cons_succ]
        refine wpAnyH_ready (rs := [2, 9]) (by kernel_rfl) (by simp) ?_
        refine AllReadyH.cons rfl (fun K hK => ?_) (AllReadyH.cons rfl (fun K hK => ?_) AllReadyH.nil)
        · skip
          go_simp
          have PXn := Lib.hid (PXc.out.keep (al1 (.cells #[.int .i64 (i : Int)] 3)))
          have I0 := Lib.hid (Bk.new Wd #[.int .i64 (i : Int)] 3)
          skip
          refine hK.out _ _ ?_ (fun hNext => ?_)
          · exact PXn.out.x.at_ 1 _ rfl
          clear hK K hHeld
          have hHeld := hNext
          clear hNext
          try simp only [List.getElem_toArray, List.getElem_cons_succ, List.getElem_cons_zero, Act.put, List.setIfInBounds_toArray, List.set_cons_zero, List.set_cons_succ]
          obtain ⟨gi, hg⟩ : ∃ g, Wd.heap.size = g := ⟨_, rfl⟩
          rw [hg] at I0 ⊢
          clear hg
          clear PXc
          have PXc := PXn
          clear PXn
          generalize (World.alloc Wd _ : World) = Wa at *
          refine wpAnyH_ready (rs := [3, 9]) (by kernel_rfl) (by simp) ?_
          refine AllReadyH.cons rfl (fun K hK => ?_) (AllReadyH.cons rfl (fun K hK => ?_) AllReadyH.nil)
          · skip
            refine step_nums rfl (.tmp 24) (.tmp 26) rfl (Tk Wa (.slice au nu cu)) (.slice au nu cu) U [(i : Int)] rfl (Ws.start PXc.out.p.u).n (fun k hk => hk.1) _ rfl (src_bkI I0.out) HL.out (nu + 1) HE.out _ rfl ?_
            intro au2 cu2 Wb hm2 hc2' hR2 hO2
            have PXn := Lib.hid (PXc.out.pushU hR2 hO2)
            clear hR2 hO2 hm2 hc2'
            refine hK.out _ _ ?_ (fun hNext => ?_)
            · exact PXn.out.x.at_ 1 _ rfl
            clear hK K hHeld
            have hHeld := hNext
            clear hNext
            try simp only [List.getElem_toArray, List.getElem_cons_succ, List.getElem_cons_zero, Act.put, List.setIfInBounds_toArray, List.set_cons_zero, List.set_cons_succ]
            clear PXc
            have PXc := PXn
            clear PXn
            refine wpAnyH_ready (rs := [9]) (by kernel_rfl) (by simp) ?_
            refine AllReadyH.cons rfl (fun K hK => ?_) AllReadyH.nil
            go_simp
            have PXn := Lib.hid (PXc.out.keep (al1 (.cells #[.bool true] 4)))
            have B0 := Lib.hid (Bk.new Wb #[.bool true] 4)
            skip
            refine hK.out _ _ ?_ (fun hNext => ?_)
            · exact PXn.out.x.at_ 1 _ rfl
            clear hK K hHeld
            have hHeld := hNext
            clear hNext
            try simp only [List.getElem_toArray, List.getElem_cons_succ, List.getElem_cons_zero, Act.put, List.setIfInBounds_toArray, List.set_cons_zero, List.set_cons_succ]
            obtain ⟨gb, hg⟩ : ∃ g, Wb.heap.size = g := ⟨_, rfl⟩
            rw [hg] at B0 ⊢
            clear hg
            clear PXc
            have PXc := PXn
            clear PXn
            generalize (World.alloc Wb _ : World) = Wc at *
            refine wpAnyH_ready (rs := [10]) (by kernel_rfl) (by simp) ?_
            refine AllReadyH.cons rfl (fun K hK => ?_) AllReadyH.nil
            refine step_bools rfl (.tmp 28) (.tmp 33) rfl (Tk Wc (.slice ad nu cd)) (.slice ad nu cd) D [true] rfl ⟨PXc.out.p.d.row, fun k hk hs => hs.2 hk⟩ (fun k hk => hk.1) _ rfl (src_bkB B0.out) HLd.out (nu + 1) HEd.out _ rfl ?_
            intro ad2 cd2 We hm3 hc3' hR3 hO3
            have PXn := Lib.hid (PXc.out.pushD hR3 hO3)
            clear hR3 hO3 hm3 hc3'
            refine hK.out _ _ ?_ (fun hNext => ?_)
            · exact PXn.out.x.at_ 1 _ rfl
            clear hK K hHeld
            have hHeld := hNext
            clear hNext
            try simp only [List.getElem_toArray, List.getElem_cons_succ, List.getElem_cons_zero, Act.put, List.setIfInBounds_toArray, List.set_cons_zero, List.set_cons_succ]
            clear PXc
            have PXc := PXn
            clear PXn
            refine wpAnyH_take (i := 11) (v := ?_) rfl (by kernel_rfl) (by kernel_rfl) (by kernel_rfl) (fun _ _ _ h => h) (Or.inl ⟨by rfl, ?_⟩) hHeld ?_
            rotate_left
            · (intro wS hSw; (try dsimp only at hSw); (try go_split_ands); go_simp; try with_reducible rfl)
            try simp only [List.getElem_toArray, List.getElem_cons_succ, List.getElem_cons_zero, Act.put, List.setIfInBounds_toArray, List.set_cons_zero, List.set_cons_succ]
            refine wpAnyH_take (i := 12) (v := ?_) rfl (by kernel_rfl) (by kernel_rfl) (by kernel_rfl) (fun _ _ _ h => h) (Or.inl ⟨by rfl, ?_⟩) hHeld ?_
            rotate_left
            · (intro wS hSw; (try dsimp only at hSw); (try go_split_ands); go_simp; try with_reducible rfl)
            try simp only [List.getElem_toArray, List.getElem_cons_succ, List.getElem_cons_zero, Act.put, List.setIfInBounds_toArray, List.set_cons_zero, List.set_cons_succ]
            refine wpAnyH_done (by kernel_rfl) ?_ _
            clear hHeld
            have x1 := PXc.out.x.at_ 1 _ rfl
            have x2 := PXc.out.x.at_ 2 _ rfl
            have x3 := PXc.out.x.at_ 3 _ rfl
            go_wp2_with (fail)
            go_roundg zr.pre.length
            case measure => simp [Sh.pre]; omega
            case rel =>
              obtain ⟨eU, eD, eI⟩ := EE.out
              have e1 := HU.out.1
              have e2 := HU.out.2
              exact ⟨zr, _, _, U ++ [(i : Int)], D ++ [true], au2, ad2, nu + 1, cu2, cd2, rfl, rfl, rfl, rfl, HZ.out, by simp; omega, by simp; omega, by rw [← eU]; simp [preI], by rw [← eD]; simp, eI, PXc.out.p⟩
          · skip
            go_simp
            have PXn := Lib.hid (PXc.out.keep (al1 (.cells #[.bool true] 4)))
            have B0 := Lib.hid (Bk.new Wa #[.bool true] 4)
            have NB := Lib.hid (show (∀ k, (Value.slice au nu cu).ownBlock = some k → k < Wa.heap.size) from fun k hk => (PXc.out.p.u.row.lt k hk).2)
            replace I0 := Lib.hid (I0.out.past (.cells #[.bool true] 4))
            refine hK.out _ _ ?_ (fun hNext => ?_)
            · exact PXn.out.x.at_ 1 _ rfl
            clear hK K hHeld
            have hHeld := hNext
            clear hNext
            try simp only [List.getElem_toArray, List.getElem_cons_succ, List.getElem_cons_zero, Act.put, List.setIfInBounds_toArray, List.set_cons_zero, List.set_cons_succ]
            obtain ⟨gb, hg⟩ : ∃ g, Wa.heap.size = g := ⟨_, rfl⟩
            rw [hg] at B0 NB ⊢
            clear hg
            clear PXc
            have PXc := PXn
            clear PXn
            generalize (World.alloc Wa _ : World) = Wb at *
            refine wpAnyH_ready (rs := [3]) (by kernel_rfl) (by simp) ?_
            refine AllReadyH.cons rfl (fun K hK => ?_) AllReadyH.nil
            refine step_nums rfl (.tmp 24) (.tmp 26) rfl (Tk Wb (.slice au nu cu)) (.slice au nu cu) U [(i : Int)] rfl (Ws.start PXc.out.p.u).n (fun k hk => hk.1) _ rfl (src_bkI I0.out) HL.out (nu + 1) HE.out _ rfl ?_
            intro au2 cu2 Wc hm2 hc2' hR2 hO2
            have PXn := Lib.hid (PXc.out.pushU hR2 hO2)
            replace B0 := Lib.hid (B0.out.only hO2 (fun hh => hh ⟨B0.out.lt, fun e => absurd (NB.out _ e) (Nat.lt_irrefl _)⟩))
            clear hR2 hO2 hm2 hc2'
            refine hK.out _ _ ?_ (fun hNext => ?_)
            · exact PXn.out.x.at_ 1 _ rfl
            clear hK K hHeld
            have hHeld := hNext
            clear hNext
            try simp only [List.getElem_toArray, List.getElem_cons_succ, List.getElem_cons_zero, Act.put, List.setIfInBounds_toArray, List.set_cons_zero, List.set_cons_succ]
            clear PXc
            have PXc := PXn
            clear PXn
            refine wpAnyH_ready (rs := [10]) (by kernel_rfl) (by simp) ?_
            refine AllReadyH.cons rfl (fun K hK => ?_) AllReadyH.nil
            refine step_bools rfl (.tmp 28) (.tmp 33) rfl (Tk Wc (.slice ad nu cd)) (.slice ad nu cd) D [true] rfl ⟨PXc.out.p.d.row, fun k hk hs => hs.2 hk⟩ (fun k hk => hk.1) _ rfl (src_bkB B0.out) HLd.out (nu + 1) HEd.out _ rfl ?_
            intro ad2 cd2 We hm3 hc3' hR3 hO3
            have PXn := Lib.hid (PXc.out.pushD hR3 hO3)
            clear hR3 hO3 hm3 hc3'
            refine hK.out _ _ ?_ (fun hNext => ?_)
            · exact PXn.out.x.at_ 1 _ rfl
            clear hK K hHeld
            have hHeld := hNext
            clear hNext
            try simp only [List.getElem_toArray, List.getElem_cons_succ, List.getElem_cons_zero, Act.put, List.setIfInBounds_toArray, List.set_cons_zero, List.set_cons_succ]
            clear PXc
            have PXc := PXn
            clear PXn
            refine wpAnyH_take (i := 11) (v := ?_) rfl (by kernel_rfl) (by kernel_rfl) (by kernel_rfl) (fun _ _ _ h => h) (Or.inl ⟨by rfl, ?_⟩) hHeld ?_
            rotate_left
            · (intro wS hSw; (try dsimp only at hSw); (try go_split_ands); go_simp; try with_reducible rfl)
            try simp only [List.getElem_toArray, List.getElem_cons_succ, List.getElem_cons_zero, Act.put, List.setIfInBounds_toArray, List.set_cons_zero, List.set_cons_succ]
            refine wpAnyH_take (i := 12) (v := ?_) rfl (by kernel_rfl) (by kernel_rfl) (by kernel_rfl) (fun _ _ _ h => h) (Or.inl ⟨by rfl, ?_⟩) hHeld ?_
            rotate_left
            · (intro wS hSw; (try dsimp only at hSw); (try go_split_ands); go_simp; try with_reducible rfl)
            try simp only [List.getElem_toArray, List.getElem_cons_succ, List.getElem_cons_zero, Act.put, List.setIfInBounds_toArray, List.set_cons_zero, List.set_cons_succ]
            refine wpAnyH_done (by kernel_rfl) ?_ _
            clear hHeld
            have x1 := PXc.out.x.at_ 1 _ rfl
            have x2 := PXc.out.x.at_ 2 _ rfl
            have x3 := PXc.out.x.at_ 3 _ rfl
            go_wp2_with (fail)
            go_roundg zr.pre.length
            case measure => simp [Sh.pre]; omega
            case rel =>
              obtain ⟨eU, eD, eI⟩ := EE.out
              have e1 := HU.out.1
              have e2 := HU.out.2
              exact ⟨zr, _, _, U ++ [(i : Int)], D ++ [true], au2, ad2, nu + 1, cu2, cd2, rfl, rfl, rfl, rfl, HZ.out, by simp; omega, by simp; omega, by rw [← eU]; simp [preI], by rw [← eD]; simp, eI, PXc.out.p⟩
        · skip
          go_simp
          have PXn := Lib.hid (PXc.out.keep (al1 (.cells #[.bool true] 4)))
          have B0 := Lib.hid (Bk.new Wd #[.bool true] 4)
          have NB := Lib.hid (show (∀ k, (Value.slice au nu cu).ownBlock = some k → k < Wd.heap.size) from fun k hk => (PXc.out.p.u.row.lt k hk).2)
          refine hK.out _ _ ?_ (fun hNext => ?_)
          · exact PXn.out.x.at_ 1 _ rfl
          clear hK K hHeld
          have hHeld := hNext
          clear hNext
          try simp only [List.getElem_toArray, List.getElem_cons_succ, List.getElem_cons_zero, Act.put, List.setIfInBounds_toArray, List.set_cons_zero, List.set_cons_succ]
          obtain ⟨gb, hg⟩ : ∃ g, Wd.heap.size = g := ⟨_, rfl⟩
          rw [hg] at B0 NB ⊢
          clear hg
          clear PXc
          have PXc := PXn
          clear PXn
          generalize (World.alloc Wd _ : World) = Wa at *
          refine wpAnyH_ready (rs := [2]) (by kernel_rfl) (by simp) ?_
          refine AllReadyH.cons rfl (fun K hK => ?_) AllReadyH.nil
          go_simp
          have PXn := Lib.hid (PXc.out.keep (al1 (.cells #[.int .i64 (i : Int)] 3)))
          have I0 := Lib.hid (Bk.new Wa #[.int .i64 (i : Int)] 3)
          skip
          replace B0 := Lib.hid (B0.out.past (.cells #[.int .i64 (i : Int)] 3))
          refine hK.out _ _ ?_ (fun hNext => ?_)
          · exact PXn.out.x.at_ 1 _ rfl
          clear hK K hHeld
          have hHeld := hNext
          clear hNext
          try simp only [List.getElem_toArray, List.getElem_cons_succ, List.getElem_cons_zero, Act.put, List.setIfInBounds_toArray, List.set_cons_zero, List.set_cons_succ]
          obtain ⟨gi, hg⟩ : ∃ g, Wa.heap.size = g := ⟨_, rfl⟩
          rw [hg] at I0 ⊢
          clear hg
          clear PXc
          have PXc := PXn
          clear PXn
          generalize (World.alloc Wa _ : World) = Wb at *
          refine wpAnyH_ready (rs := [3]) (by kernel_rfl) (by simp) ?_
          refine AllReadyH.cons rfl (fun K hK => ?_) AllReadyH.nil
          refine step_nums rfl (.tmp 24) (.tmp 26) rfl (Tk Wb (.slice au nu cu)) (.slice au nu cu) U [(i : Int)] rfl (Ws.start PXc.out.p.u).n (fun k hk => hk.1) _ rfl (src_bkI I0.out) HL.out (nu + 1) HE.out _ rfl ?_
          intro au2 cu2 Wc hm2 hc2' hR2 hO2
          have PXn := Lib.hid (PXc.out.pushU hR2 hO2)
          replace B0 := Lib.hid (B0.out.only hO2 (fun hh => hh ⟨B0.out.lt, fun e => absurd (NB.out _ e) (Nat.lt_irrefl _)⟩))
          clear hR2 hO2 hm2 hc2'
          refine hK.out _ _ ?_ (fun hNext => ?_)
          · exact PXn.out.x.at_ 1 _ rfl
          clear hK K hHeld
          have hHeld := hNext
          clear hNext
          try simp only [List.getElem_toArray, List.getElem_cons_succ, List.getElem_cons_zero, Act.put, List.setIfInBounds_toArray, List.set_cons_zero, List.set_cons_succ]
          clear PXc
          have PXc := PXn
          clear PXn
          refine wpAnyH_ready (rs := [10]) (by kernel_rfl) (by simp) ?_
          refine AllReadyH.cons rfl (fun K hK => ?_) AllReadyH.nil
          refine step_bools rfl (.tmp 28) (.tmp 33) rfl (Tk Wc (.slice ad nu cd)) (.slice ad nu cd) D [true] rfl ⟨PXc.out.p.d.row, fun k hk hs => hs.2 hk⟩ (fun k hk => hk.1) _ rfl (src_bkB B0.out) HLd.out (nu + 1) HEd.out _ rfl ?_
          intro ad2 cd2 We hm3 hc3' hR3 hO3
          have PXn := Lib.hid (PXc.out.pushD hR3 hO3)
          clear hR3 hO3 hm3 hc3'
          refine hK.out _ _ ?_ (fun hNext => ?_)
          · exact PXn.out.x.at_ 1 _ rfl
          clear hK K hHeld
          have hHeld := hNext
          clear hNext
          try simp only [List.getElem_toArray, List.getElem_cons_succ, List.getElem_cons_zero, Act.put, List.setIfInBounds_toArray, List.set_cons_zero, List.set_cons_succ]
          clear PXc
          have PXc := PXn
          clear PXn
          refine wpAnyH_take (i := 11) (v := ?_) rfl (by kernel_rfl) (by kernel_rfl) (by kernel_rfl) (fun _ _ _ h => h) (Or.inl ⟨by rfl, ?_⟩) hHeld ?_
          rotate_left
          · (intro wS hSw; (try dsimp only at hSw); (try go_split_ands); go_simp; try with_reducible rfl)
          try simp only [List.getElem_toArray, List.getElem_cons_succ, List.getElem_cons_zero, Act.put, List.setIfInBounds_toArray, List.set_cons_zero, List.set_cons_succ]
          refine wpAnyH_take (i := 12) (v := ?_) rfl (by kernel_rfl) (by kernel_rfl) (by kernel_rfl) (fun _ _ _ h => h) (Or.inl ⟨by rfl, ?_⟩) hHeld ?_
          rotate_left
          · (intro wS hSw; (try dsimp only at hSw); (try go_split_ands); go_simp; try with_reducible rfl)
          try simp only [List.getElem_toArray, List.getElem_cons_succ, List.getElem_cons_zero, Act.put, List.setIfInBounds_toArray, List.set_cons_zero, List.set_cons_succ]
          refine wpAnyH_done (by kernel_rfl) ?_ _
          clear hHeld
          have x1 := PXc.out.x.at_ 1 _ rfl
          have x2 := PXc.out.x.at_ 2 _ rfl
          have x3 := PXc.out.x.at_ 3 _ rfl
          go_wp2_with (fail)
          go_roundg zr.pre.length
          case measure => simp [Sh.pre]; omega
          case rel =>
            obtain ⟨eU, eD, eI⟩ := EE.out
            have e1 := HU.out.1
            have e2 := HU.out.2
            exact ⟨zr, _, _, U ++ [(i : Int)], D ++ [true], au2, ad2, nu + 1, cu2, cd2, rfl, rfl, rfl, rfl, HZ.out, by simp; omega, by simp; omega, by rw [← eU]; simp [preI], by rw [← eD]; simp, eI, PXc.out.p⟩
      · skip
        have hk1 : decide (k ≤ key) = false := decide_eq_false hk
        have hk2 : decide (key < k) = true := decide_eq_true (by omega)
        have eK := hkN hk
        rw [eK] at EE
        have HZ := Lib.hid (show Hangs N zl (zl.top : Int) _ _ from hlt ▸ hl)
        subst hlt
        subst hrt
        have PX7 := Lib.hid (show PX (w.alloc (.cells #[.int .i64 t, .slice (some ⟨b, o, none⟩) N.length cap] 24)) wr.heap.size [.bool true, .int .i64 k, .int .i64 (zl.top : Int), .int .i64 (zr.top : Int), .slice pa p.length pc, .int .i64 sx] (wr.alloc (.cells #[.bool true, .int .i64 k, .int .i64 (zl.top : Int), .int .i64 (zr.top : Int), .slice pa p.length pc, .int .i64 sx] 51)) (.slice au nu cu) (.slice ad nu cd) U D from
          ⟨FF.out.keep (al1 _), Bk.new wr #[.bool true, .int .i64 k, .int .i64 (zl.top : Int), .int .i64 (zr.top : Int), .slice pa p.length pc, .int .i64 sx] 51, fun e => absurd (FF.out.u.row.lt _ e).2 (Nat.lt_irrefl _), fun e => absurd (FF.out.d.row.lt _ e).2 (Nat.lt_irrefl _)⟩)
        go_upto_region 6 with (fail)
        rw [show ((Sh.rt i zl zr).top : Int) = (i : Int) from rfl]
        obtain ⟨q7, hq7⟩ : ∃ q, wr.heap.size = q := ⟨_, rfl⟩
        rw [hq7] at PX7 ⊢
        clear hq7 e0 e1 e2 e3 e4 e5 j0 j1 eK hkY hkN hl hrr hpl
        generalize (World.alloc wr _ : World) = W7 at *
        have HL := Lib.hid (show U.length + [(i : Int)].length ≤ 1000000 by have := HU.out.1; simp; omega)
        have HE := Lib.hid (show U.length + [(i : Int)].length = nu + 1 by have := HU.out.1; simp; omega)
        have HLd := Lib.hid (show D.length + [false].length ≤ 1000000 by have := HU.out.2; simp; omega)
        have HEd := Lib.hid (show D.length + [false].length = nu + 1 by have := HU.out.2; simp; omega)
        refine wp_region_held_drew (S := (fun W => W.cell? ⟨q7, 1, none⟩ = some (.int .i64 k))) (by kernel_rfl) (PX7.out.x.at_ 1 _ rfl) (fun hHeld => ?_)
        have PXc := Lib.hid (PX7.out.keep (Below.refl _ _).drew)
        clear PX7
        generalize (World.drew W7 : World) = Wd at *
        refine wpAnyH_take (i := 0) (v := ?_) rfl (by kernel_rfl) (by kernel_rfl) (by kernel_rfl) (fun _ _ _ h => h) (Or.inl ⟨by rfl, ?_⟩) hHeld ?_
        rotate_left
        · (intro wS hSw; (try dsimp only at hSw); (try go_split_ands); go_simp; try with_reducible rfl)
        try simp only [List.getElem_toArray, List.getElem_cons_succ, List.getElem_cons_zero, Act.put, List.setIfInBounds_toArray, List.set_cons_zero, List.set_cons_succ]
        refine wpAnyH_take (i := 1) (v := ?_) rfl (by kernel_rfl) (by kernel_rfl) (by kernel_rfl) (fun _ _ _ h => h) (Or.inl ⟨by rfl, ?_⟩) hHeld ?_
        rotate_left
        · (intro wS hSw; (try dsimp only at hSw); (try go_split_ands); go_simp; try with_reducible rfl)
        try simp only [List.getElem_toArray, List.getElem_cons_succ, List.getElem_cons_zero, Act.put, List.setIfInBounds_toArray, List.set_cons_zero, List.set_cons_succ]
        refine wpAnyH_take (i := 4) (v := ?_) rfl (by kernel_rfl) (by kernel_rfl) (by kernel_rfl) (fun _ _ _ h => h) (Or.inl ⟨by rfl, ?_⟩) hHeld ?_
        rotate_left
        · (intro wS hSw; (try dsimp only at hSw); (try go_split_ands); go_simp; try with_reducible rfl)
        try simp only [List.getElem_toArray, List.getElem_cons_succ, List.getElem_cons_zero, Act.put, List.setIfInBounds_toArray, List.set_cons_zero, List.set_cons_succ]
        refine wpAnyH_take (i := 5) (v := ?_) rfl (by kernel_rfl) (by kernel_rfl) (by kernel_rfl) (fun _ _ _ h => h) (Or.inl ⟨by rfl, ?_⟩) hHeld ?_
        rotate_left
        · (intro wS hSw; (try dsimp only at hSw); (try go_split_ands); go_simp; try with_reducible rfl)
        try simp only [List.getElem_toArray, List.getElem_cons_succ, List.getElem_cons_zero, Act.put, List.setIfInBounds_toArray, List.set_cons_zero, List.set_cons_succ]
        refine wpAnyH_take (i := 6) (v := ?_) rfl (by kernel_rfl) (by kernel_rfl) (by kernel_rfl) (fun _ _ _ h => h) (Or.inl ⟨by rfl, ?_⟩) hHeld ?_
        rotate_left
        · (intro wS hSw; (try dsimp only at hSw); (try go_split_ands); go_simp; try with_reducible rfl)
        try simp only [List.getElem_toArray, List.getElem_cons_succ, List.getElem_cons_zero, Act.put, List.setIfInBounds_toArray, List.set_cons_zero, List.set_cons_succ]
        refine wpAnyH_take (i := 7) (v := ?_) rfl (by kernel_rfl) (by kernel_rfl) (by kernel_rfl) (fun _ _ _ h => h) (Or.inl ⟨by rfl, ?_⟩) hHeld ?_
        rotate_left
        · (intro wS hSw; (try dsimp only at hSw); (try go_split_ands); go_simp; try with_reducible rfl)
        try simp only [List.getElem_toArray, List.getElem_cons_succ, List.getElem_cons_zero, Act.put, List.setIfInBounds_toArray, List.set_cons_zero, List.set_cons_succ]
        refine wpAnyH_take (i := 8) (v := ?_) rfl (by kernel_rfl) (by kernel_rfl) (by kernel_rfl) (fun _ _ _ h => h) (Or.inl ⟨by rfl, ?_⟩) hHeld ?_
        rotate_left
        · (intro wS hSw; (try dsimp only at hSw); (try go_split_ands); go_simp; try with_reducible rfl)
        try simp only [List.getElem_toArray, List.getElem_cons_succ, List.getElem_cons_zero, Act.put, List.setIfInBounds_toArray, List.set_cons_zero, List.set_cons_succ]
        refine wpAnyH_ready (rs := [2, 9]) (by kernel_rfl) (by simp) ?_
        refine AllReadyH.cons rfl (fun K hK => ?_) (AllReadyH.cons rfl (fun K hK => ?_) AllReadyH.nil)
        · skip
          go_simp
          have PXn := Lib.hid (PXc.out.keep (al1 (.cells #[.int .i64 (i : Int)] 3)))
          have I0 := Lib.hid (Bk.new Wd #[.int .i64 (i : Int)] 3)
          skip
          refine hK.out _ _ ?_ (fun hNext => ?_)
          · exact PXn.out.x.at_ 1 _ rfl
          clear hK K hHeld
          have hHeld := hNext
          clear hNext
          try simp only [List.getElem_toArray, List.getElem_cons_succ, List.getElem_cons_zero, Act.put, List.setIfInBounds_toArray, List.set_cons_zero, List.set_cons_succ]
          obtain ⟨gi, hg⟩ : ∃ g, Wd.heap.size = g := ⟨_, rfl⟩
          rw [hg] at I0 ⊢
          clear hg
          clear PXc
          have PXc := PXn
          clear PXn
          generalize (World.alloc Wd _ : World) = Wa at *
          refine wpAnyH_ready (rs := [3, 9]) (by kernel_rfl) (by simp) ?_
          refine AllReadyH.cons rfl (fun K hK => ?_) (AllReadyH.cons rfl (fun K hK => ?_) AllReadyH.nil)
          · skip
            refine step_nums rfl (.tmp 24) (.tmp 26) rfl (Tk Wa (.slice au nu cu)) (.slice au nu cu) U [(i : Int)] rfl (Ws.start PXc.out.p.u).n (fun k hk => hk.1) _ rfl (src_bkI I0.out) HL.out (nu + 1) HE.out _ rfl ?_
            intro au2 cu2 Wb hm2 hc2' hR2 hO2
            have PXn := Lib.hid (PXc.out.pushU hR2 hO2)
            clear hR2 hO2 hm2 hc2'
            refine hK.out _ _ ?_ (fun hNext => ?_)
            · exact PXn.out.x.at_ 1 _ rfl
            clear hK K hHeld
            have hHeld := hNext
            clear hNext
            try simp only [List.getElem_toArray, List.getElem_cons_succ, List.getElem_cons_zero, Act.put, List.setIfInBounds_toArray, List.set_cons_zero, List.set_cons_succ]
            clear PXc
            have PXc := PXn
            clear PXn
            refine wpAnyH_ready (rs := [9]) (by kernel_rfl) (by simp) ?_
            refine AllReadyH.cons rfl (fun K hK => ?_) AllReadyH.nil
            go_simp
            have PXn := Lib.hid (PXc.out.keep (al1 (.cells #[.bool false] 4)))
            have B0 := Lib.hid (Bk.new Wb #[.bool false] 4)
            skip
            refine hK.out _ _ ?_ (fun hNext => ?_)
            · exact PXn.out.x.at_ 1 _ rfl
            clear hK K hHeld
            have hHeld := hNext
            clear hNext
            try simp only [List.getElem_toArray, List.getElem_cons_succ, List.getElem_cons_zero, Act.put, List.setIfInBounds_toArray, List.set_cons_zero, List.set_cons_succ]
            obtain ⟨gb, hg⟩ : ∃ g, Wb.heap.size = g := ⟨_, rfl⟩
            rw [hg] at B0 ⊢
            clear hg
            clear PXc
            have PXc := PXn
            clear PXn
            generalize (World.alloc Wb _ : World) = Wc at *
            refine wpAnyH_ready (rs := [10]) (by kernel_rfl) (by simp) ?_
            refine AllReadyH.cons rfl (fun K hK => ?_) AllReadyH.nil
            refine step_bools rfl (.tmp 28) (.tmp 33) rfl (Tk Wc (.slice ad nu cd)) (.slice ad nu cd) D [false] rfl ⟨PXc.out.p.d.row, fun k hk hs => hs.2 hk⟩ (fun k hk => hk.1) _ rfl (src_bkB B0.out) HLd.out (nu + 1) HEd.out _ rfl ?_
            intro ad2 cd2 We hm3 hc3' hR3 hO3
            have PXn := Lib.hid (PXc.out.pushD hR3 hO3)
            clear hR3 hO3 hm3 hc3'
            refine hK.out _ _ ?_ (fun hNext => ?_)
            · exact PXn.out.x.at_ 1 _ rfl
            clear hK K hHeld
            have hHeld := hNext
            clear hNext
            try simp only [List.getElem_toArray, List.getElem_cons_succ, List.getElem_cons_zero, Act.put, List.setIfInBounds_toArray, List.set_cons_zero, List.set_cons_succ]
            clear PXc
            have PXc := PXn
            clear PXn
            refine wpAnyH_take (i := 11) (v := ?_) rfl (by kernel_rfl) (by kernel_rfl) (by kernel_rfl) (fun _ _ _ h => h) (Or.inl ⟨by rfl, ?_⟩) hHeld ?_
            rotate_left
            · (intro wS hSw; (try dsimp only at hSw); (try go_split_ands); go_simp; try with_reducible rfl)
            try simp only [List.getElem_toArray, List.getElem_cons_succ, List.getElem_cons_zero, Act.put, List.setIfInBounds_toArray, List.set_cons_zero, List.set_cons_succ]
            refine wpAnyH_take (i := 12) (v := ?_) rfl (by kernel_rfl) (by kernel_rfl) (by kernel_rfl) (fun _ _ _ h => h) (Or.inl ⟨by rfl, ?_⟩) hHeld ?_
            rotate_left
            · (intro wS hSw; (try dsimp only at hSw); (try go_split_ands); go_simp; try with_reducible rfl)
            try simp only [List.getElem_toArray, List.getElem_cons_succ, List.getElem_cons_zero, Act.put, List.setIfInBounds_toArray, List.set_cons_zero, List.set_cons_succ]
            refine wpAnyH_done (by kernel_rfl) ?_ _
            clear hHeld
            have x1 := PXc.out.x.at_ 1 _ rfl
            have x2 := PXc.out.x.at_ 2 _ rfl
            have x3 := PXc.out.x.at_ 3 _ rfl
            go_wp2_with (fail)
            go_roundg zl.pre.length
            case measure => simp [Sh.pre]; omega
            case rel =>
              obtain ⟨eU, eD, eI⟩ := EE.out
              have e1 := HU.out.1
              have e2 := HU.out.2
              exact ⟨zl, _, _, U ++ [(i : Int)], D ++ [false], au2, ad2, nu + 1, cu2, cd2, rfl, rfl, rfl, rfl, HZ.out, by simp; omega, by simp; omega, by rw [← eU]; simp [preI], by rw [← eD]; simp, eI, PXc.out.p⟩
          · skip
            go_simp
            have PXn := Lib.hid (PXc.out.keep (al1 (.cells #[.bool false] 4)))
            have B0 := Lib.hid (Bk.new Wa #[.bool false] 4)
            have NB := Lib.hid (show (∀ k, (Value.slice au nu cu).ownBlock = some k → k < Wa.heap.size) from fun k hk => (PXc.out.p.u.row.lt k hk).2)
            replace I0 := Lib.hid (I0.out.past (.cells #[.bool false] 4))
            refine hK.out _ _ ?_ (fun hNext => ?_)
            · exact PXn.out.x.at_ 1 _ rfl
            clear hK K hHeld
            have hHeld := hNext
            clear hNext
            try simp only [List.getElem_toArray, List.getElem_cons_succ, List.getElem_cons_zero, Act.put, List.setIfInBounds_toArray, List.set_cons_zero, List.set_cons_succ]
            obtain ⟨gb, hg⟩ : ∃ g, Wa.heap.size = g := ⟨_, rfl⟩
            rw [hg] at B0 NB ⊢
            clear hg
            clear PXc
            have PXc := PXn
            clear PXn
            generalize (World.alloc Wa _ : World) = Wb at *
            refine wpAnyH_ready (rs := [3]) (by kernel_rfl) (by simp) ?_
            refine AllReadyH.cons rfl (fun K hK => ?_) AllReadyH.nil
            refine step_nums rfl (.tmp 24) (.tmp 26) rfl (Tk Wb (.slice au nu cu)) (.slice au nu cu) U [(i : Int)] rfl (Ws.start PXc.out.p.u).n (fun k hk => hk.1) _ rfl (src_bkI I0.out) HL.out (nu + 1) HE.out _ rfl ?_
            intro au2 cu2 Wc hm2 hc2' hR2 hO2
            have PXn := Lib.hid (PXc.out.pushU hR2 hO2)
            replace B0 := Lib.hid (B0.out.only hO2 (fun hh => hh ⟨B0.out.lt, fun e => absurd (NB.out _ e) (Nat.lt_irrefl _)⟩))
            clear hR2 hO2 hm2 hc2'
            refine hK.out _ _ ?_ (fun hNext => ?_)
            · exact PXn.out.x.at_ 1 _ rfl
            clear hK K hHeld
            have hHeld := hNext
            clear hNext
            try simp only [List.getElem_toArray, List.getElem_cons_succ, List.getElem_cons_zero, Act.put, List.setIfInBounds_toArray, List.set_cons_zero, List.set_cons_succ]
            clear PXc
            have PXc := PXn
            clear PXn
            refine wpAnyH_ready (rs := [10]) (by kernel_rfl) (by simp) ?_
            refine AllReadyH.cons rfl (fun K hK => ?_) AllReadyH.nil
            refine step_bools rfl (.tmp 28) (.tmp 33) rfl (Tk Wc (.slice ad nu cd)) (.slice ad nu cd) D [false] rfl ⟨PXc.out.p.d.row, fun k hk hs => hs.2 hk⟩ (fun k hk => hk.1) _ rfl (src_bkB B0.out) HLd.out (nu + 1) HEd.out _ rfl ?_
            intro ad2 cd2 We hm3 hc3' hR3 hO3
            have PXn := Lib.hid (PXc.out.pushD hR3 hO3)
            clear hR3 hO3 hm3 hc3'
            refine hK.out _ _ ?_ (fun hNext => ?_)
            · exact PXn.out.x.at_ 1 _ rfl
            clear hK K hHeld
            have hHeld := hNext
            clear hNext
            try simp only [List.getElem_toArray, List.getElem_cons_succ, List.getElem_cons_zero, Act.put, List.setIfInBounds_toArray, List.set_cons_zero, List.set_cons_succ]
            clear PXc
            have PXc := PXn
            clear PXn
            refine wpAnyH_take (i := 11) (v := ?_) rfl (by kernel_rfl) (by kernel_rfl) (by kernel_rfl) (fun _ _ _ h => h) (Or.inl ⟨by rfl, ?_⟩) hHeld ?_
            rotate_left
            · (intro wS hSw; (try dsimp only at hSw); (try go_split_ands); go_simp; try with_reducible rfl)
            try simp only [List.getElem_toArray, List.getElem_cons_succ, List.getElem_cons_zero, Act.put, List.setIfInBounds_toArray, List.set_cons_zero, List.set_cons_succ]
            refine wpAnyH_take (i := 12) (v := ?_) rfl (by kernel_rfl) (by kernel_rfl) (by kernel_rfl) (fun _ _ _ h => h) (Or.inl ⟨by rfl, ?_⟩) hHeld ?_
            rotate_left
            · (intro wS hSw; (try dsimp only at hSw); (try go_split_ands); go_simp; try with_reducible rfl)
            try simp only [List.getElem_toArray, List.getElem_cons_succ, List.getElem_cons_zero, Act.put, List.setIfInBounds_toArray, List.set_cons_zero, List.set_cons_succ]
            refine wpAnyH_done (by kernel_rfl) ?_ _
            clear hHeld
            have x1 := PXc.out.x.at_ 1 _ rfl
            have x2 := PXc.out.x.at_ 2 _ rfl
            have x3 := PXc.out.x.at_ 3 _ rfl
            go_wp2_with (fail)
            go_roundg zl.pre.length
            case measure => simp [Sh.pre]; omega
            case rel =>
              obtain ⟨eU, eD, eI⟩ := EE.out
              have e1 := HU.out.1
              have e2 := HU.out.2
              exact ⟨zl, _, _, U ++ [(i : Int)], D ++ [false], au2, ad2, nu + 1, cu2, cd2, rfl, rfl, rfl, rfl, HZ.out, by simp; omega, by simp; omega, by rw [← eU]; simp [preI], by rw [← eD]; simp, eI, PXc.out.p⟩
        · skip
          go_simp
          have PXn := Lib.hid (PXc.out.keep (al1 (.cells #[.bool false] 4)))
          have B0 := Lib.hid (Bk.new Wd #[.bool false] 4)
          have NB := Lib.hid (show (∀ k, (Value.slice au nu cu).ownBlock = some k → k < Wd.heap.size) from fun k hk => (PXc.out.p.u.row.lt k hk).2)
          refine hK.out _ _ ?_ (fun hNext => ?_)
          · exact PXn.out.x.at_ 1 _ rfl
          clear hK K hHeld
          have hHeld := hNext
          clear hNext
          try simp only [List.getElem_toArray, List.getElem_cons_succ, List.getElem_cons_zero, Act.put, List.setIfInBounds_toArray, List.set_cons_zero, List.set_cons_succ]
          obtain ⟨gb, hg⟩ : ∃ g, Wd.heap.size = g := ⟨_, rfl⟩
          rw [hg] at B0 NB ⊢
          clear hg
          clear PXc
          have PXc := PXn
          clear PXn
          generalize (World.alloc Wd _ : World) = Wa at *
          refine wpAnyH_ready (rs := [2]) (by kernel_rfl) (by simp) ?_
          refine AllReadyH.cons rfl (fun K hK => ?_) AllReadyH.nil
          go_simp
          have PXn := Lib.hid (PXc.out.keep (al1 (.cells #[.int .i64 (i : Int)] 3)))
          have I0 := Lib.hid (Bk.new Wa #[.int .i64 (i : Int)] 3)
          skip
          replace B0 := Lib.hid (B0.out.past (.cells #[.int .i64 (i : Int)] 3))
          refine hK.out _ _ ?_ (fun hNext => ?_)
          · exact PXn.out.x.at_ 1 _ rfl
          clear hK K hHeld
          have hHeld := hNext
          clear hNext
          try simp only [List.getElem_toArray, List.getElem_cons_succ, List.getElem_cons_zero, Act.put, List.setIfInBounds_toArray, List.set_cons_zero, List.set_cons_succ]
          obtain ⟨gi, hg⟩ : ∃ g, Wa.heap.size = g := ⟨_, rfl⟩
          rw [hg] at I0 ⊢
          clear hg
          clear PXc
          have PXc := PXn
          clear PXn
          generalize (World.alloc Wa _ : World) = Wb at *
          refine wpAnyH_ready (rs := [3]) (by kernel_rfl) (by simp) ?_
          refine AllReadyH.cons rfl (fun K hK => ?_) AllReadyH.nil
          refine step_nums rfl (.tmp 24) (.tmp 26) rfl (Tk Wb (.slice au nu cu)) (.slice au nu cu) U [(i : Int)] rfl (Ws.start PXc.out.p.u).n (fun k hk => hk.1) _ rfl (src_bkI I0.out) HL.out (nu + 1) HE.out _ rfl ?_
          intro au2 cu2 Wc hm2 hc2' hR2 hO2
          have PXn := Lib.hid (PXc.out.pushU hR2 hO2)
          replace B0 := Lib.hid (B0.out.only hO2 (fun hh => hh ⟨B0.out.lt, fun e => absurd (NB.out _ e) (Nat.lt_irrefl _)⟩))
          clear hR2 hO2 hm2 hc2'
          refine hK.out _ _ ?_ (fun hNext => ?_)
          · exact PXn.out.x.at_ 1 _ rfl
          clear hK K hHeld
          have hHeld := hNext
          clear hNext
          try simp only [List.getElem_toArray, List.getElem_cons_succ, List.getElem_cons_zero, Act.put, List.setIfInBounds_toArray, List.set_cons_zero, List.set_cons_succ]
          clear PXc
          have PXc := PXn
          clear PXn
          refine wpAnyH_ready (rs := [10]) (by kernel_rfl) (by simp) ?_
          refine AllReadyH.cons rfl (fun K hK => ?_) AllReadyH.nil
          refine step_bools rfl (.tmp 28) (.tmp 33) rfl (Tk Wc (.slice ad nu cd)) (.slice ad nu cd) D [false] rfl ⟨PXc.out.p.d.row, fun k hk hs => hs.2 hk⟩ (fun k hk => hk.1) _ rfl (src_bkB B0.out) HLd.out (nu + 1) HEd.out _ rfl ?_
          intro ad2 cd2 We hm3 hc3' hR3 hO3
          have PXn := Lib.hid (PXc.out.pushD hR3 hO3)
          clear hR3 hO3 hm3 hc3'
          refine hK.out _ _ ?_ (fun hNext => ?_)
          · exact PXn.out.x.at_ 1 _ rfl
          clear hK K hHeld
          have hHeld := hNext
          clear hNext
          try simp only [List.getElem_toArray, List.getElem_cons_succ, List.getElem_cons_zero, Act.put, List.setIfInBounds_toArray, List.set_cons_zero, List.set_cons_succ]
          clear PXc
          have PXc := PXn
          clear PXn
          refine wpAnyH_take (i := 11) (v := ?_) rfl (by kernel_rfl) (by kernel_rfl) (by kernel_rfl) (fun _ _ _ h => h) (Or.inl ⟨by rfl, ?_⟩) hHeld ?_
          rotate_left
          · (intro wS hSw; (try dsimp only at hSw); (try go_split_ands); go_simp; try with_reducible rfl)
          try simp only [List.getElem_toArray, List.getElem_cons_succ, List.getElem_cons_zero, Act.put, List.setIfInBounds_toArray, List.set_cons_zero, List.set_cons_succ]
          refine wpAnyH_take (i := 12) (v := ?_) rfl (by kernel_rfl) (by kernel_rfl) (by kernel_rfl) (fun _ _ _ h => h) (Or.inl ⟨by rfl, ?_⟩) hHeld ?_
          rotate_left
          · (intro wS hSw; (try dsimp only at hSw); (try go_split_ands); go_simp; try with_reducible rfl)
          try simp only [List.getElem_toArray, List.getElem_cons_succ, List.getElem_cons_zero, Act.put, List.setIfInBounds_toArray, List.set_cons_zero, List.set_cons_succ]
          refine wpAnyH_done (by kernel_rfl) ?_ _
          clear hHeld
          have x1 := PXc.out.x.at_ 1 _ rfl
          have x2 := PXc.out.x.at_ 2 _ rfl
          have x3 := PXc.out.x.at_ 3 _ rfl
          go_wp2_with (fail)
          go_roundg zl.pre.length
          case measure => simp [Sh.pre]; omega
          case rel =>
            obtain ⟨eU, eD, eI⟩ := EE.out
            have e1 := HU.out.1
            have e2 := HU.out.2
            exact ⟨zl, _, _, U ++ [(i : Int)], D ++ [false], au2, ad2, nu + 1, cu2, cd2, rfl, rfl, rfl, rfl, HZ.out, by simp; omega, by simp; omega, by rw [← eU]; simp [preI], by rw [← eD]; simp, eI, PXc.out.p⟩
#print axioms rpath_any
end Go.Proofs.Ytlpjbgojijkdjaa
