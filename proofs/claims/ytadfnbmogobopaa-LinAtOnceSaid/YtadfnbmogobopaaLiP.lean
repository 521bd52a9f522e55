/- lin's search: it comes to an end, and comes through just if it can. No condition: lemmas. -/
import Derived.Test.YtadfnbmogobopaaLiO
import Derived.Deep.RegionHeld
namespace Go.Proofs.Ytadfnbmogobopaa
open Go.RowKit Go.Maps
set_option linter.all false
set_option maxRecDepth 20000

section
variable {ops : Array Oper} {rest : List Oper} {o : Oper} {a : Act} {w : World} {Q : Exit → Act → World → Prop}
theorem wpList_loadBits (hg : o.guard = none) (x : Operand) (ho : o.op = .load 60 x) (b : Nat) (hx : a.eval x = .pointer (some ⟨b, 0, none⟩)) {S : Nat → Bool} (hq : Bq w b (vtv (fun i => .bool (S i)) 16))
    (h : wpList Try.prog ops Q rest (a.put o.dst (.agg (bitsA S))) w) : wpList Try.prog ops Q (o :: rest) a w :=
  wpList_load_mid hg 60 x ho b 0 hx _ _ hq.range Try.underlying60 rfl (by rw [vtv_len]; exact sizePlaces) h
theorem wpList_loadBitsG (hg : Region.wanted o (yielded ops a.tmps) = true) (x : Operand) (ho : o.op = .load 60 x) (b : Nat) (hx : a.eval x = .pointer (some ⟨b, 0, none⟩)) {S : Nat → Bool} (hq : Bq w b (vtv (fun i => .bool (S i)) 16))
    (h : wpList Try.prog ops Q rest (a.put o.dst (.agg (bitsA S))) w) : wpList Try.prog ops Q (o :: rest) a w := by
  refine wpList_step fun K hK => ?_
  rw [if_pos hg]
  exact wp_load_mid 60 x ho b 0 hx _ _ hq.range Try.underlying60 rfl (by rw [vtv_len]; exact sizePlaces) (hK _ _ h)
theorem exec_load {x : Operand} {t : TypeId} {b : Nat} {cs : List Value} {d : TypeDesc} (ho : o.op = .load t x) (hx : a.eval x = .pointer (some ⟨b, 0, none⟩)) (hc : w.rangeAt b 0 cs) (hu : Try.prog.underlying t = some d) (hd : d.isRow = true) (hi : (Try.prog.info? t).map (·.size) = some cs.length) :
    (execOp a.eval o).run Try.prog w = .ok (.value (.agg cs.toArray)) w := by
  unfold execOp
  simp only [ho, hx, Instr.loadAt, Instr.sureAddr, Sem.run_bind, Sem.run_pure, Result.andThen_ok, run_loadVar_mid w b 0 t cs d hc hu hd hi]
theorem zeroPlaces (w : World) : (zeroValue 60).run Try.prog w = .ok (.agg (bitsA (fun _ => false))) w :=
  (zero_of_info (by kernel_rfl : (Try.prog.info? 60).map (fun i => (i.zero, i.size)) = some (some (.agg (bitsA (fun _ => false))), 16))).1 w
theorem bits_set (S : Nat → Bool) (k : Nat) : (bitsA S).setIfInBounds k (.bool true) = bitsA (nxS S k) := by
  unfold bitsA
  rw [List.setIfInBounds_toArray, vtv_set]
  refine congrArg List.toArray (vtv_congr fun j _ => ?_)
  show (if j = k then Value.bool true else .bool (S j)) = .bool (if j = k then true else S j)
  split <;> rfl
theorem adEq_eq {A B : Ad} (h : AdEq A B) : A = B := by
  obtain ⟨h1, h2, ⟨h3, h4⟩, h5, h6⟩ := h
  cases A
  cases B
  simp only at h1 h2 h3 h4 h5 h6
  subst h1 h2 h3 h4 h5 h6
  rfl
theorem exec_unit (ho : o.op = .build 80 #[]) : (execOp a.eval o).run Try.prog w = .ok (.value (.agg #[])) w := by
  unfold execOp
  have := run_build (P := Try.prog) w 80 #[] #[] (by kernel_rfl)
  simp only [ho, Array.map_empty, Sem.run_bind, this, Sem.run_pure, Result.andThen_ok]
theorem wp_mapSet {K : Act → World → Prop} {mo x v : Operand} {mb n : Nat} {D : DWs} {key : Value} {kl : Lit} (ho : o.op = .mapUpdate 53 mo x v) (hm : a.eval mo = .map (some mb)) (hx : a.eval x = key) (hv : a.eval v = .agg #[])
    (h : w.ownsMap Try.prog 78 unitElem mb n D) (hn : n < maxLen) (hk : keyOf Try.prog 78 key = some kl)
    (H : ∀ w', w'.ownsMap Try.prog 78 unitElem mb (n + 1) (D.put kl (.agg [])) → Only (fun k => k = mb) w w' → K (a.put o.dst undef) w') : Oper.wp Try.prog o a w K Q := by
  obtain ⟨w', hrun, r1, r2⟩ := h.update spLaw spMap hn hk (unitElem_mk)
  unfold Oper.wp execOp
  simp only [ho, hm, hx, hv, Sem.run_bind, hrun, Sem.run_pure, Result.andThen_ok]
  exact H w' r1 (only_grown r2)
theorem exec_look {mo x : Operand} {mb n : Nat} {D : DWs} {key : Value} {kl : Lit} (ho : o.op = .lookup 53 mo x true) (hm : a.eval mo = .map (some mb)) (hx : a.eval x = key)
    (h : w.ownsMap Try.prog 78 unitElem mb n D) (hk : keyOf Try.prog 78 key = some kl) : (execOp a.eval o).run Try.prog w = .ok (.value (.tuple #[.agg #[], .bool (has D kl)])) w := by
  obtain ⟨v, ps, hrun, hv⟩ := h.look_ok spLaw spMap (spUnit w) (zd := .agg []) (zp := []) unitElem_mk hk
  obtain ⟨rfl, _⟩ := unitElem_inv hv
  unfold execOp
  simp only [ho, hm, hx, hrun, Sem.run_bind, Sem.run_pure, Result.andThen_ok]
end
set_option maxRecDepth 100000 in
set_option maxHeartbeats 25600000 in
theorem on_any (W0 : World) (sb mb : Nat) (a : Option Addr) (cap : Nat) (L : List ClD) (b : List Pr) (hC : Cs W0 a cap L) (hn : L.length ≤ 16) (hs0 : W0.heap.size ≤ sb) (hm0 : W0.heap.size ≤ mb) (hsm : sb ≠ mb)
    (hov : ∀ i, i < L.length → i64w (L.getD i zCl).o.v) (hpd : ∀ i, i < L.length → (L.getD i zCl).g < 0 → (L.getD i zCl).a.err = 0) :
    ∀ (r mp : Nat) (vo : Value) (pre : List Int) (S : Nat → Bool) (m : List Pr) (n : Nat) (D : DWs) (T : List ((Nat → Bool) × List Pr)) (w : World), lefS S L.length = r → mp ≠ sb → mp ≠ mb → W0.heap.size ≤ mp →
      OnSt W0 sb mb mp a cap L vo pre m n D w → OnIn L b pre S m n D T →
      Calls Try.prog 20 #[.pointer (some ⟨sb, 0, none⟩), .pointer (some ⟨mp, 0, none⟩), .agg (bitsA S)] w (OnIs w sb mb a cap L b vo pre S m n T) := by
  intro r
  induction r using Nat.strongRecOn with
  | ind r ih =>
  intro mp vo pre S m n D T w hr hps hpm hp0 hst hin
  have HC := Lib.hid hC
  have HIH := Lib.hid ih
  have HOV := Lib.hid hov
  have HPD := Lib.hid hpd
  have HR := Lib.hid hr
  have HST := Lib.hid hst
  have HIN := Lib.hid hin
  have hc1 := hC.1
  have hc2 := hC.2.1
  unfold maxLen at hc2
  have HST1 := Lib.hid (hst.keep (pal (w := w) (.cells (bitsA S) 60)))
  have HN1 := Lib.hid (bits_new w S)
  have HB1 := Lib.hid (pal (w := w) (.cells (bitsA S) 60))
  have c0 := hst.sq.at_ 0 _ rfl
  have c1 := hst.sq.at_ 1 _ rfl
  have c2 := hst.sq.at_ 2 _ rfl
  have hsl := hst.sq.lt
  have hml : m.length ≤ 1000 := by have := hin.ml; omega
  clear hC hov hpd ih hst hin hr
  obtain ⟨BW, hBW⟩ := bool_is (¬ lft L S)
  have cw := fun W hs hL => whole_any sb a cap L S W hs hL hn BW hBW
  by_cases hl : lft L S
  rotate_left
  · obtain rfl : BW = true := hBW.2 hl
    clear hBW
    go_enter Try.func20, Try.ntmps20
    go_wp2_with (first
      | (refine wpList_loadBits rfl _ rfl w.heap.size rfl HN1.out ?_)
      | (go_at_call 29; ((with_reducible refine (cw _ (HST1.out.sq.at_ 0 _ rfl) (HC.out.keep HST1.out.be)).mono ?_); clear cw; rintro e v1 ⟨rfl, hb⟩; have HST2 := Lib.hid (HST1.out.keep hb); have HN2 := Lib.hid (HN1.out.keep hb); have HB2 := Lib.hid (pb2 HB1.out hb); have d0 := HST2.out.sq.at_ 0 _ rfl; have d2 := HST2.out.sq.at_ 2 _ rfl; have dl := HST2.out.sq.lt; clear hb c0 c1 c2 hsl))
      | fail)
    go_ret
    exact ⟨true, vo, rfl, Only.ofBelow HB2.out, HST2.out.sq, fun k _ h => h, .inl ⟨rfl, [], hl, by rw [List.append_nil]; exact HST2.out.row.sub (fun k _ hk => hk.elim .inl (fun h => .inr (.inl h)))⟩⟩
  · have hBf : BW = false := by
      cases BW
      · rfl
      · exact absurd hl (hBW.1 rfl)
    subst hBf
    clear hBW
    have HL := Lib.hid hl
    clear hl
    have cs := fun W Sm hs hL hm => spot_any sb a cap L S mp Sm m W hs hL hn hm hml HIN.out.st.ag.s
    go_enter Try.func20, Try.ntmps20
    go_wp2_with (first
      | (refine wpList_loadBits rfl _ rfl w.heap.size rfl HN1.out ?_)
      | (refine wpList_loadBits rfl _ rfl w.heap.size rfl HN2.out ?_)
      | (go_at_call 29; ((with_reducible refine (cw _ (HST1.out.sq.at_ 0 _ rfl) (HC.out.keep HST1.out.be)).mono ?_); clear cw; rintro e v1 ⟨rfl, hb⟩; have HST2 := Lib.hid (HST1.out.keep hb); have HN2 := Lib.hid (HN1.out.keep hb); have HB2 := Lib.hid (pb2 HB1.out hb); have d0 := HST2.out.sq.at_ 0 _ rfl; have d2 := HST2.out.sq.at_ 2 _ rfl; have dl := HST2.out.sq.lt; clear hb c0 c1 c2 hsl))
      | (go_at_call 30; ((with_reducible refine (cs _ _ (HST2.out.sq.at_ 0 _ rfl) (HC.out.keep HST2.out.be) HST2.out.mp_).mono ?_); clear cs; rintro e v2 ⟨rfl, hb⟩; have HST3 := Lib.hid ((HST2.out.keep hb).keep (pal (w := v2) (.cells (spotA L S m L.length) 78))); have HN3 := Lib.hid ((HN2.out.keep hb).keep (pal (w := v2) (.cells (spotA L S m L.length) 78))); have HB3 := Lib.hid (pb1 (pb2 HB2.out hb) (.cells (spotA L S m L.length) 78)); have HSP := Lib.hid (spot_new v2 L S m L.length); have hgw := (pb2 HB2.out hb).size; clear hb d0 d2 dl))
      | (refine wpList_allocT rfl 78 rfl _ zeroSpot ?_)
      | (refine wpList_storeN rfl 78 _ _ rfl _ _ (spotA L S m L.length) rfl rfl rfl (by rw [spotA_size]; exact sizeSpot) (by rw [spotA_size, spotA_size]) (spotA_one _ _ _ _) ?_)
      | fail)
    have hg7 := HSP.out.lt
    generalize v2.alloc (.cells (spotA L S m L.length) 78) = W3 at *
    generalize v2.heap.size = g7 at *
    obtain ⟨kl, hkl⟩ := key_of L S m (fun k => HIN.out.wid.hv k)
    have HKL := Lib.hid hkl
    clear hkl
    have d2 := HST3.out.sq.at_ 2 _ rfl
    refine wp_region_held_drew (S := fun W => W.cell? ⟨sb, 2, none⟩ = some (.map (some mb)) ∧ W.rangeAt g7 0 (vtv (spf L S m L.length) 48) ∧ W.ownsMap Try.prog 78 unitElem mb n D ∧ Below W3.heap.size W3 W) (by kernel_rfl) (by first | exact ⟨d2, HSP.out.range, HST3.out.set, Below.refl _ _⟩ | exact ⟨d2, HSP.out.drew.range, HST3.out.set.drew, (Below.refl _ _).drew⟩) (fun hHeld => ?_)
    refine tkO 0 ?_ rfl (by kernel_rfl) (fun _ _ _ h => h) ⟨by rfl, ?_⟩ hHeld ?_; rotate_left
    · intro wS hSw; (try dsimp only at hSw); (try go_split_ands); go_simp; try with_reducible rfl
    try simp only [List.getElem_toArray, List.getElem_cons_succ, List.getElem_cons_zero, Act.put, List.setIfInBounds_toArray, List.set_cons_zero, List.set_cons_succ]
    refine tkO 1 ?_ rfl (by kernel_rfl) (fun _ _ _ h => h) ⟨by rfl, ?_⟩ hHeld ?_; rotate_left
    · intro wS hSw; (try dsimp only at hSw); (try go_split_ands); go_simp; try with_reducible rfl
    try simp only [List.getElem_toArray, List.getElem_cons_succ, List.getElem_cons_zero, Act.put, List.setIfInBounds_toArray, List.set_cons_zero, List.set_cons_succ]
    refine tkO 2 ?_ rfl (by kernel_rfl) (fun _ _ _ h => h) ⟨by rfl, ?_⟩ hHeld ?_; rotate_left
    · intro wS hSw; (try dsimp only at hSw); (try go_split_ands); go_simp; try with_reducible rfl
    try simp only [List.getElem_toArray, List.getElem_cons_succ, List.getElem_cons_zero, Act.put, List.setIfInBounds_toArray, List.set_cons_zero, List.set_cons_succ]
    refine tkO 3 ?_ rfl (by kernel_rfl) (fun _ _ _ h => h) ⟨by rfl, ?_⟩ hHeld ?_; rotate_left
    · intro wS hSw; (try dsimp only at hSw); (try go_split_ands); go_simp; try with_reducible rfl
    try simp only [List.getElem_toArray, List.getElem_cons_succ, List.getElem_cons_zero, Act.put, List.setIfInBounds_toArray, List.set_cons_zero, List.set_cons_succ]
    refine tkO 4 (.agg (spotA L S m L.length)) rfl (by kernel_rfl) (fun _ _ _ h => h) ⟨by rfl, fun wS hSw => exec_load rfl rfl hSw.2.1 Try.underlying78 rfl (by rw [vtv_len]; exact sizeSpot)⟩ hHeld ?_
    try simp only [List.getElem_toArray, List.getElem_cons_succ, List.getElem_cons_zero, Act.put, List.setIfInBounds_toArray, List.set_cons_zero, List.set_cons_succ]
    refine tkO 5 (.tuple #[.agg #[], .bool (has D kl)]) rfl (by kernel_rfl) (fun _ _ _ h => h) ⟨by rfl, fun wS hSw => exec_look rfl rfl rfl hSw.2.2.1 HKL.out⟩ hHeld ?_
    try simp only [List.getElem_toArray, List.getElem_cons_succ, List.getElem_cons_zero, Act.put, List.setIfInBounds_toArray, List.set_cons_zero, List.set_cons_succ]
    refine tkO 6 ?_ rfl (by kernel_rfl) (fun _ _ _ h => h) ⟨by rfl, ?_⟩ hHeld ?_; rotate_left
    · intro wS hSw; (try dsimp only at hSw); (try go_split_ands); go_simp; try with_reducible rfl
    try simp only [List.getElem_toArray, List.getElem_cons_succ, List.getElem_cons_zero, Act.put, List.setIfInBounds_toArray, List.set_cons_zero, List.set_cons_succ]
    refine tkO 7 ?_ rfl (by kernel_rfl) (fun _ _ _ h => h) ⟨by rfl, ?_⟩ hHeld ?_; rotate_left
    · intro wS hSw; (try dsimp only at hSw); (try go_split_ands); go_simp; try with_reducible rfl
    try simp only [List.getElem_toArray, List.getElem_cons_succ, List.getElem_cons_zero, Act.put, List.setIfInBounds_toArray, List.set_cons_zero, List.set_cons_succ]
    refine tkO 8 ?_ rfl (by kernel_rfl) (fun _ _ _ h => h) ⟨by rfl, ?_⟩ hHeld ?_; rotate_left
    · intro wS hSw; (try dsimp only at hSw); (try go_split_ands); go_simp; try with_reducible rfl
    try simp only [List.getElem_toArray, List.getElem_cons_succ, List.getElem_cons_zero, Act.put, List.setIfInBounds_toArray, List.set_cons_zero, List.set_cons_succ]
    refine wpAnyH_ready (rs := [9]) (by kernel_rfl) (by simp) ?_
    refine AllReadyH.cons rfl (fun K hK => ?_) AllReadyH.nil
    go_simp
    refine hK.out _ _ ?_ (fun hNext => ?_)
    · exact ⟨pkc (pal _) hHeld.1, fun j v hj => pkc (pal _) (hHeld.2.1 j v hj), hHeld.2.2.1.alloc _, pb1 hHeld.2.2.2 _⟩
    clear hK K hHeld
    have hHeld := hNext
    clear hNext
    try simp only [List.getElem_toArray, List.getElem_cons_succ, List.getElem_cons_zero, Act.put, List.setIfInBounds_toArray, List.set_cons_zero, List.set_cons_succ]
    refine wpAnyH_ready (rs := [10]) (by kernel_rfl) (by simp) ?_
    refine AllReadyH.cons rfl (fun K hK => ?_) AllReadyH.nil
    go_simp
    refine hK.out _ _ ?_ (fun hNext => ?_)
    · exact hHeld
    clear hK K hHeld
    have hHeld := hNext
    clear hNext
    try simp only [List.getElem_toArray, List.getElem_cons_succ, List.getElem_cons_zero, Act.put, List.setIfInBounds_toArray, List.set_cons_zero, List.set_cons_succ]
    refine tkO 11 ?_ rfl (by kernel_rfl) (fun _ _ _ h => h) ⟨by rfl, ?_⟩ hHeld ?_; rotate_left
    · intro wS hSw; (try dsimp only at hSw); (try go_split_ands); go_simp; try with_reducible rfl
    try simp only [List.getElem_toArray, List.getElem_cons_succ, List.getElem_cons_zero, Act.put, List.setIfInBounds_toArray, List.set_cons_zero, List.set_cons_succ]
    refine wpAnyH_done (by kernel_rfl) ?_ _
    have HST4 := Lib.hid (HST3.out.keep hHeld.2.2.2)
    have HN4 := Lib.hid (HN3.out.keep hHeld.2.2.2)
    have HS4 := Lib.hid (HSP.out.keep hHeld.2.2.2)
    have HB4 := Lib.hid (pb2 HB3.out hHeld.2.2.2)
    have hm3 : mb < w.heap.size := World.ownsMap.lt HST.out.set
    have HM3 := Lib.hid hm3
    have hs3 : sb < w.heap.size := HST.out.sq.lt
    clear hHeld d2 HST3 HN3 HB3 HSP hg7 HST1 HST2 HN1 HN2 HB1 HB2
    generalize (W3.alloc (.cells #[] 80)).drew = W4 at *
    obtain ⟨hb, hhb⟩ : ∃ hb, has D kl = hb := ⟨_, rfl⟩
    have HH := Lib.hid hhb
    rw [hhb]
    clear hhb
    cases hb
    rotate_left
    · go_wp2_with (fail)
      go_ret
      exact ⟨false, vo, rfl, Only.ofBelow HB4.out, HST4.out.sq, fun k _ h => h, .inr ⟨rfl, HIN.out.rem.hit (HIN.out.mem.hit hn HIN.out.sto HIN.out.st HKL.out HH.out), HST4.out.row.sub (fun k _ hk => hk.elim .inl (fun h => .inr (.inl h))), n, D, T, HST4.out.set, HIN.out.mem, HIN.out.sto, fun t ht => .inl ht, Nat.le_add_right _ _⟩⟩
    · go_wp2_with (fail)
      have d2 := HST4.out.sq.at_ 2 _ rfl
      have hgm : ¬ g7 = mb := by omega
      refine wp_region_held_drew (S := fun W => W.cell? ⟨sb, 2, none⟩ = some (.map (some mb)) ∧ W.rangeAt g7 0 (vtv (spf L S m L.length) 48) ∧ Only (fun k => k = mb) W4 W) (by kernel_rfl) (by first | exact ⟨d2, HS4.out.range, Only.refl _ _⟩ | exact ⟨d2, HS4.out.drew.range, (Only.refl _ _).drew⟩) (fun hHeld => ?_)
      refine tkO 0 ?_ rfl (by kernel_rfl) (fun _ _ _ h => h) ⟨by rfl, ?_⟩ hHeld ?_; rotate_left
      · intro wS hSw; (try dsimp only at hSw); (try go_split_ands); go_simp; try with_reducible rfl
      try simp only [List.getElem_toArray, List.getElem_cons_succ, List.getElem_cons_zero, Act.put, List.setIfInBounds_toArray, List.set_cons_zero, List.set_cons_succ]
      refine tkO 1 ?_ rfl (by kernel_rfl) (fun _ _ _ h => h) ⟨by rfl, ?_⟩ hHeld ?_; rotate_left
      · intro wS hSw; (try dsimp only at hSw); (try go_split_ands); go_simp; try with_reducible rfl
      try simp only [List.getElem_toArray, List.getElem_cons_succ, List.getElem_cons_zero, Act.put, List.setIfInBounds_toArray, List.set_cons_zero, List.set_cons_succ]
      refine tkO 2 ?_ rfl (by kernel_rfl) (fun _ _ _ h => h) ⟨by rfl, ?_⟩ hHeld ?_; rotate_left
      · intro wS hSw; (try dsimp only at hSw); (try go_split_ands); go_simp; try with_reducible rfl
      try simp only [List.getElem_toArray, List.getElem_cons_succ, List.getElem_cons_zero, Act.put, List.setIfInBounds_toArray, List.set_cons_zero, List.set_cons_succ]
      refine tkO 3 ?_ rfl (by kernel_rfl) (fun _ _ _ h => h) ⟨by rfl, ?_⟩ hHeld ?_; rotate_left
      · intro wS hSw; (try dsimp only at hSw); (try go_split_ands); go_simp; try with_reducible rfl
      try simp only [List.getElem_toArray, List.getElem_cons_succ, List.getElem_cons_zero, Act.put, List.setIfInBounds_toArray, List.set_cons_zero, List.set_cons_succ]
      refine tkO 4 (.agg (spotA L S m L.length)) rfl (by kernel_rfl) (fun _ _ _ h => h) ⟨by rfl, fun wS hSw => exec_load rfl rfl hSw.2.1 Try.underlying78 rfl (by rw [vtv_len]; exact sizeSpot)⟩ hHeld ?_
      try simp only [List.getElem_toArray, List.getElem_cons_succ, List.getElem_cons_zero, Act.put, List.setIfInBounds_toArray, List.set_cons_zero, List.set_cons_succ]
      refine tkO 5 (.agg #[]) rfl (by kernel_rfl) (fun _ _ _ h => h) ⟨by rfl, fun wS hSw => exec_unit rfl⟩ hHeld ?_
      try simp only [List.getElem_toArray, List.getElem_cons_succ, List.getElem_cons_zero, Act.put, List.setIfInBounds_toArray, List.set_cons_zero, List.set_cons_succ]
      refine wpAnyH_ready (rs := [6]) (by kernel_rfl) (by simp) ?_
      refine AllReadyH.cons rfl (fun K hK => ?_) AllReadyH.nil
      rw [if_pos (by rfl)]
      refine wp_mapSet rfl rfl rfl rfl (n := n) (D := D) (kl := kl) HST4.out.set.drew (by have := HIN.out.nb; have := memF_pos (lefS S L.length); unfold maxLen; omega) HKL.out (fun W5 hs5 ho5 => ?_)
      refine hK.out _ _ ?_ (fun hNext => ?_)
      · exact ⟨(ho5.cell (p := ⟨sb, 2, none⟩) hHeld.1 hsm), fun j v hj => ho5.cell (p := ⟨g7, 0 + j, none⟩) (hHeld.2.1 j v hj) hgm, hHeld.2.2.trans ho5 (fun i hi _ => hi)⟩
      clear hK K hHeld
      have hHeld := hNext
      clear hNext
      try simp only [List.getElem_toArray, List.getElem_cons_succ, List.getElem_cons_zero, Act.put, List.setIfInBounds_toArray, List.set_cons_zero, List.set_cons_succ]
      refine wpAnyH_done (by kernel_rfl) ?_ _
      have HST5 := Lib.hid (HST4.out.mapd hsm hpm hm0 hHeld.2.2 hs5)
      have HLP0 : Hid (OnLp W0 w sb mb mp a cap L b vo pre S m n T 0 vo (n + 1) (D.put kl (.agg [])) ((S, m) :: T) W5) := Lib.hid ⟨fun i hi => by omega, HST5.out, fun e => absurd (HST.out.row.row.lt _ e).2 (Nat.lt_irrefl _), HN4.out.only hHeld.2.2 (by omega), (Only.ofBelow HB4.out).trans hHeld.2.2 (fun i hi _ => .inr (.inl hi)), fun k _ h => h, HIN.out.mem.add HKL.out _, fun t ht => by
        rcases List.mem_cons.1 ht with e | e
        · rw [e]; exact HIN.out.st
        · exact HIN.out.sto t e, fun t ht => .inl ht, Nat.le_add_right _ _⟩
      have HLF := Lib.hid (lft_pos HL.out)
      have d0 := HST5.out.sq.at_ 0 _ rfl
      have dl := HST5.out.sq.lt
      clear hHeld hs5 ho5 d2 HST4 HN4 HB4 HS4 HH HKL hgm hgw
      go_wp2_with (fail)
      go_loopw [43] (fun i wr => ∃ (k : Nat) (vr : Value) (nr : Nat) (Dr : DWs) (Tr : List ((Nat → Bool) × List Pr)), k ≤ L.length ∧ i = .int .i64 k ∧ OnLp W0 w sb mb mp a cap L b vo pre S m n T k vr nr Dr Tr wr) (fun i _ => L.length - (intOf i).toNat)
      case atStart => exact ⟨0, vo, n + 1, _, _, Nat.zero_le _, rfl, HLP0.out⟩
      case round =>
        clear HLP0 HST5 d0 dl
        obtain ⟨k, vr, nr, Dr, Tr, hkl, rfl, hlp⟩ := hrel
        have HLP := Lib.hid hlp
        by_cases hlt : k < L.length
        · obtain ⟨cm, hcm⟩ : ∃ cm, L[k]? = some cm := ⟨_, List.getElem?_eq_getElem hlt⟩
          obtain ⟨bb, oo, pa, pc, rfl, hca⟩ := (HC.out.keep hlp.st.be).2.2 k cm hcm
          have HPA := Lib.hid hca.ps
          obtain ⟨c0, c1, c2, c3, c4, c5, c6, c7, c8, c9, c10, c11, c12⟩ := hca.ex
          have hn0 : (0 : Int) ≤ (k : Int) := Int.natCast_nonneg k
          have hnI : (k : Int) < (L.length : Int) := Int.ofNat_lt.2 hlt
          have hn16 : (k : Int) < 16 := by omega
          have hn16n : k < 16 := by omega
          have hgd : L.getD k zCl = cm := by rw [List.getD_eq_getElem?_getD, hcm]; rfl
          have HGD := Lib.hid hgd
          have hbl := hlp.bits.lt
          have hbn := hlp.bits.at_ k _ (vtv_get hn16n)
          try dsimp only at hbn
          clear hcm hca hgd hlp
          obtain ⟨V, hV⟩ : ∃ V : Bool, S k = V := ⟨_, rfl⟩
          have HV := Lib.hid hV
          obtain ⟨F, hF⟩ : ∃ F : Bool, decide (¬ cm.a.err = 0) = F := ⟨_, rfl⟩
          have HF := Lib.hid hF
          obtain ⟨Y, hY⟩ := bool_is (mayL L S cm L.length)
          have HY := Lib.hid hY
          obtain ⟨G, hG⟩ : ∃ G : Bool, decide (0 ≤ cm.g) = G := ⟨_, rfl⟩
          have HG := Lib.hid hG
          have cf := fun W => lnref_any cm pa pc W F hF
          have cy := fun W hs hL => may_come sb (some ⟨bb, oo, none⟩) cap L S cm pa pc W hs hL hn Y hY
          have cr := fun W => lnret_any cm pa pc W G hG
          rw [hV] at hbn
          clear hV hF hY hG
          obtain ⟨K, hK⟩ : ∃ K, K = cm := ⟨_, rfl⟩
          have HK := Lib.hid hK
          rw [← hK] at HF HY HG HGD
          clear hK
          obtain ⟨t, f, g, ⟨oc, ok, oh, ov⟩, ⟨ae, ao, ak, av, an, ap⟩⟩ := cm
          unfold clV at cf cy cr
          dsimp only at c0 c1 c2 c3 c4 c5 c6 c7 c8 c9 c10 c11 c12 cf cy cr
          obtain ⟨A, hA⟩ : ∃ A, A = doA m oc ok oh := ⟨_, rfl⟩
          obtain ⟨M, hM⟩ : ∃ M, M = doP m oc ok ov := ⟨_, rfl⟩
          have HTL : Hid (tlq m (L.getD k zCl) ↔ (0 ≤ K.g → A = ⟨ae, ao, ak, av, an, ap⟩)) := Lib.hid (by rw [HGD.out, hA]; unfold tlq; rw [HK.out])
          have HDO : Hid (doP m (L.getD k zCl).o.c (L.getD k zCl).o.k (L.getD k zCl).o.v = M) := Lib.hid (by rw [HGD.out, hM, HK.out])
          have hml2 : m.length ≤ 1100000 := by omega
          have cd := fun W Sc bc hmc hS => mdo_any bc Sc m oc ok oh ov W hmc hS (by omega)
          rw [← hA, ← hM] at cd
          unfold MDoIs Ad.val at cd
          obtain ⟨E, hE⟩ : ∃ E : Bool, decide (AdEq A ⟨ae, ao, ak, av, an, ap⟩) = E := ⟨_, rfl⟩
          have HE := Lib.hid hE
          have csm := fun aa ca W h1 h2 => lsame_ans A ⟨ae, ao, ak, av, an, ap⟩ aa pa ca pc W h1 h2 E hE
          unfold Ad.val at csm
          dsimp only at csm HPA
          clear hE hA hM
          have HLP1 := Lib.hid (HLP.out.keep (pal (w := wr) (.cells #[.int .i64 t, .int .i64 f, .int .i64 g, .int .i64 oc, .int .i64 ok, .int .i64 oh, .int .i64 ov, .int .i64 ae, .bool ao, .int .i64 ak, .int .i64 av, .int .i64 an, .slice pa ap.length pc] 71)))
          have HQ1 := Lib.hid (Bq.new wr #[.int .i64 t, .int .i64 f, .int .i64 g, .int .i64 oc, .int .i64 ok, .int .i64 oh, .int .i64 ov, .int .i64 ae, .bool ao, .int .i64 ak, .int .i64 av, .int .i64 an, .slice pa ap.length pc] 71)
          cases V
          rotate_left
          · go_wp2_with (fail)
            go_roundw
            case rel => exact ⟨k + 1, vr, nr, Dr, Tr, by omega, by go_num, HLP1.out.skip (fun h => by have := h.nw; rw [HV.out] at this; cases this)⟩
            case measure => simp [intOf]; omega
          · cases F
            rotate_left
            · go_wp2_with (first
                | (go_at_call 31; ((with_reducible refine (cf _).mono ?_); rintro e v4 ⟨rfl, hb4⟩; have HLP2 := Lib.hid (HLP1.out.keep hb4); clear hb4 c0 c1 c2 c3 c4 c5 c6 c7 c8 c9 c10 c11 c12)))
              go_roundw
              case rel => exact ⟨k + 1, vr, nr, Dr, Tr, by omega, by go_num, HLP2.out.skip (fun h => by
                have h1 := of_decide_eq_true HF.out
                refine absurd ?_ h.no
                rw [HGD.out]
                refine ⟨?_, h1⟩
                by_cases h2 : 0 ≤ K.g
                · exact h2
                · have := HPD.out k hlt (by rw [HGD.out]; omega)
                  rw [HGD.out] at this
                  exact absurd this h1)⟩
              case measure => simp [intOf]; omega
            · cases Y
              · go_wp2_with (first
                  | (go_at_call 31; ((with_reducible refine (cf _).mono ?_); rintro e v4 ⟨rfl, hb4⟩; have HLP2 := Lib.hid (HLP1.out.keep hb4); have HQ2 := Lib.hid (HQ1.out.keep hb4); have HB2 := Lib.hid (pb2 (pal _) hb4); have q0 := HQ2.out.at_ 0 _ rfl; have q1 := HQ2.out.at_ 1 _ rfl; have q2 := HQ2.out.at_ 2 _ rfl; have q3 := HQ2.out.at_ 3 _ rfl; have q4 := HQ2.out.at_ 4 _ rfl; have q5 := HQ2.out.at_ 5 _ rfl; have q6 := HQ2.out.at_ 6 _ rfl; have q7 := HQ2.out.at_ 7 _ rfl; have q8 := HQ2.out.at_ 8 _ rfl; have q9 := HQ2.out.at_ 9 _ rfl; have q10 := HQ2.out.at_ 10 _ rfl; have q11 := HQ2.out.at_ 11 _ rfl; have q12 := HQ2.out.at_ 12 _ rfl; clear hb4 cf hbn c0 c1 c2 c3 c4 c5 c6 c7 c8 c9 c10 c11 c12))
                  | (refine wpList_loadBitsG (by rfl) _ rfl w.heap.size rfl HLP2.out.bits ?_)
                  | (go_at_call 32; ((with_reducible refine (cy _ (HLP2.out.st.sq.at_ 0 _ rfl) (HC.out.keep HLP2.out.st.be)).mono ?_); rintro e v5 ⟨rfl, hb5⟩; clear q0 q1 q2 q3 q4 q5 q6 q7 q8 q9 q10 q11 q12; have HLP3 := Lib.hid (HLP2.out.keep hb5); have HQ3 := Lib.hid (HQ2.out.keep hb5); have HB3 := Lib.hid (pb2 HB2.out hb5); have q0 := HQ3.out.at_ 0 _ rfl; have q1 := HQ3.out.at_ 1 _ rfl; have q2 := HQ3.out.at_ 2 _ rfl; have q3 := HQ3.out.at_ 3 _ rfl; have q4 := HQ3.out.at_ 4 _ rfl; have q5 := HQ3.out.at_ 5 _ rfl; have q6 := HQ3.out.at_ 6 _ rfl; have q7 := HQ3.out.at_ 7 _ rfl; have q8 := HQ3.out.at_ 8 _ rfl; have q9 := HQ3.out.at_ 9 _ rfl; have q10 := HQ3.out.at_ 10 _ rfl; have q11 := HQ3.out.at_ 11 _ rfl; have q12 := HQ3.out.at_ 12 _ rfl; clear hb5 cy))
                  | fail)
                go_roundw
                case rel => exact ⟨k + 1, vr, nr, Dr, Tr, by omega, by go_num, HLP3.out.skip (fun h => by
                  have h1 := HY.out.2 (fun d h1 h2 h3 => by have := h.bf d h1 h2 h3; rwa [HGD.out] at this)
                  cases h1)⟩
                case measure => simp [intOf]; omega
              · have HNX : Hid (Nx L S k) := Lib.hid ⟨hlt, HV.out, fun h => by
                  have h1 := of_decide_eq_false HF.out
                  rw [HGD.out] at h
                  exact h1 h.2, fun d h1 h2 h3 => by
                  rw [HGD.out]
                  exact HY.out.1 rfl d h1 h2 h3⟩
                cases G
                · go_upto_region 15 with (first
                    | (go_at_call 31; ((with_reducible refine (cf _).mono ?_); rintro e v4 ⟨rfl, hb4⟩; have HLP2 := Lib.hid (HLP1.out.keep hb4); have HQ2 := Lib.hid (HQ1.out.keep hb4); have HB2 := Lib.hid (pb2 (pal _) hb4); have q0 := HQ2.out.at_ 0 _ rfl; have q1 := HQ2.out.at_ 1 _ rfl; have q2 := HQ2.out.at_ 2 _ rfl; have q3 := HQ2.out.at_ 3 _ rfl; have q4 := HQ2.out.at_ 4 _ rfl; have q5 := HQ2.out.at_ 5 _ rfl; have q6 := HQ2.out.at_ 6 _ rfl; have q7 := HQ2.out.at_ 7 _ rfl; have q8 := HQ2.out.at_ 8 _ rfl; have q9 := HQ2.out.at_ 9 _ rfl; have q10 := HQ2.out.at_ 10 _ rfl; have q11 := HQ2.out.at_ 11 _ rfl; have q12 := HQ2.out.at_ 12 _ rfl; clear hb4 cf hbn c0 c1 c2 c3 c4 c5 c6 c7 c8 c9 c10 c11 c12))
                    | (refine wpList_loadBitsG (by rfl) _ rfl w.heap.size rfl HLP2.out.bits ?_)
                    | (go_at_call 32; ((with_reducible refine (cy _ (HLP2.out.st.sq.at_ 0 _ rfl) (HC.out.keep HLP2.out.st.be)).mono ?_); rintro e v5 ⟨rfl, hb5⟩; clear q0 q1 q2 q3 q4 q5 q6 q7 q8 q9 q10 q11 q12; have HLP3 := Lib.hid (HLP2.out.keep hb5); have HQ3 := Lib.hid (HQ2.out.keep hb5); have HB3 := Lib.hid (pb2 HB2.out hb5); have q0 := HQ3.out.at_ 0 _ rfl; have q1 := HQ3.out.at_ 1 _ rfl; have q2 := HQ3.out.at_ 2 _ rfl; have q3 := HQ3.out.at_ 3 _ rfl; have q4 := HQ3.out.at_ 4 _ rfl; have q5 := HQ3.out.at_ 5 _ rfl; have q6 := HQ3.out.at_ 6 _ rfl; have q7 := HQ3.out.at_ 7 _ rfl; have q8 := HQ3.out.at_ 8 _ rfl; have q9 := HQ3.out.at_ 9 _ rfl; have q10 := HQ3.out.at_ 10 _ rfl; have q11 := HQ3.out.at_ 11 _ rfl; have q12 := HQ3.out.at_ 12 _ rfl; clear hb5 cy))
                    | (go_at_call 33; ((with_reducible refine (mcopy_any mp _ m _ HLP3.out.st.mp_ hml2).mono ?_); rintro e v6 ⟨bc, rfl, hbc, hmc, hb6⟩; clear q0 q1 q2 q3 q4 q5 q6 q7 q8 q9 q10 q11 q12; have HB56 := Lib.hid hb6; have HBC := Lib.hid hbc; have HMC4 := Lib.hid hmc; have HQ4 := Lib.hid (HQ3.out.keep hb6); have q0 := HQ4.out.at_ 0 _ rfl; have q1 := HQ4.out.at_ 1 _ rfl; have q2 := HQ4.out.at_ 2 _ rfl; have q3 := HQ4.out.at_ 3 _ rfl; have q4 := HQ4.out.at_ 4 _ rfl; have q5 := HQ4.out.at_ 5 _ rfl; have q6 := HQ4.out.at_ 6 _ rfl; have q7 := HQ4.out.at_ 7 _ rfl; have q8 := HQ4.out.at_ 8 _ rfl; have q9 := HQ4.out.at_ 9 _ rfl; have q10 := HQ4.out.at_ 10 _ rfl; have q11 := HQ4.out.at_ 11 _ rfl; have q12 := HQ4.out.at_ 12 _ rfl; clear hbc hmc hb6))
                    | (go_at_call 34; ((with_reducible refine (cd _ _ bc HMC4.out (fun j hj => hj.elim (fun e => Nat.lt_of_lt_of_le e HB56.out.size) (fun e => e ▸ HMC4.out.lt))).mono ?_); rintro e v7 ⟨aa, ca, rfl, hm7, hr7, ho7⟩; clear q0 q1 q2 q3 q4 q5 q6 q7 q8 q9 q10 q11 q12; have hb7 := HB56.out.trans (ho7.below (fun i hi => by have e7 : i = bc := hi; have := HBC.out; omega) HB56.out.size); have HLP5 := Lib.hid (HLP3.out.keep hb7); have HQ5 := Lib.hid (HQ3.out.keep hb7); have HB5 := Lib.hid (pb2 HB3.out hb7); have HMC5 := Lib.hid hm7; have HR5 := Lib.hid (hr7.prs rfl); have HT5 := Lib.hid (Bq.new v7 #[.int .i64 A.err, .bool A.ok, .int .i64 A.k, .int .i64 A.v, .int .i64 A.n, .slice aa A.ps.length ca] 34); have q0 := HQ5.out.at_ 0 _ rfl; have q1 := HQ5.out.at_ 1 _ rfl; have q2 := HQ5.out.at_ 2 _ rfl; have q3 := HQ5.out.at_ 3 _ rfl; have q4 := HQ5.out.at_ 4 _ rfl; have q5 := HQ5.out.at_ 5 _ rfl; have q6 := HQ5.out.at_ 6 _ rfl; have q7 := HQ5.out.at_ 7 _ rfl; have q8 := HQ5.out.at_ 8 _ rfl; have q9 := HQ5.out.at_ 9 _ rfl; have q10 := HQ5.out.at_ 10 _ rfl; have q11 := HQ5.out.at_ 11 _ rfl; have q12 := HQ5.out.at_ 12 _ rfl; have hlq := HQ5.out.lt; clear hm7 hr7 ho7 hb7 cd))
                    | (go_at_call 35; ((with_reducible refine (cr _).mono ?_); rintro e v8 ⟨rfl, hb8⟩; clear q0 q1 q2 q3 q4 q5 q6 q7 q8 q9 q10 q11 q12; have hb9 := pb2 (pal (w := v7) (.cells #[.int .i64 A.err, .bool A.ok, .int .i64 A.k, .int .i64 A.v, .int .i64 A.n, .slice aa A.ps.length ca] 34)) hb8; have HLP6 := Lib.hid (HLP5.out.keep hb9); have HQ6 := Lib.hid (HQ5.out.keep hb9); have HB6 := Lib.hid (pb2 HB5.out hb9); have HMC6 := Lib.hid (HMC5.out.below hb9); have HR6 := Lib.hid (HR5.out.below hb9); have HT6 := Lib.hid (HT5.out.keep hb8); have q0 := HQ6.out.at_ 0 _ rfl; have q1 := HQ6.out.at_ 1 _ rfl; have q2 := HQ6.out.at_ 2 _ rfl; have q3 := HQ6.out.at_ 3 _ rfl; have q4 := HQ6.out.at_ 4 _ rfl; have q5 := HQ6.out.at_ 5 _ rfl; have q6 := HQ6.out.at_ 6 _ rfl; have q7 := HQ6.out.at_ 7 _ rfl; have q8 := HQ6.out.at_ 8 _ rfl; have q9 := HQ6.out.at_ 9 _ rfl; have q10 := HQ6.out.at_ 10 _ rfl; have q11 := HQ6.out.at_ 11 _ rfl; have q12 := HQ6.out.at_ 12 _ rfl; have a0 := HT6.out.at_ 0 _ rfl; have a1 := HT6.out.at_ 1 _ rfl; have a2 := HT6.out.at_ 2 _ rfl; have a3 := HT6.out.at_ 3 _ rfl; have a4 := HT6.out.at_ 4 _ rfl; have a5 := HT6.out.at_ 5 _ rfl; clear hb8 hb9 cr))
                    | fail)
                  have HTLQ := Lib.hid (HTL.out.2 (fun h => absurd h (of_decide_eq_false HG.out)))
                  have HBSZ := Lib.hid HB3.out.size
                  clear HQ1 HQ2 HQ3 HQ4 HQ5 HQ6 HT5 HT6 HR5 HR6 HLP1 HLP2 HLP3 HB2 HB3 HPA
                  have hbsb : ¬ bc = sb := by have h1 := HBC.out; have h2 := HBSZ.out; omega
                  have hbmb : ¬ bc = mb := by have h1 := HBC.out; have h2 := HBSZ.out; omega
                  have HDEEP := Lib.hid (OnLp.deep HLP6.out HIN.out hn HV.out hlt HLF.out (HOV.out k hlt))
                  rw [HDO.out] at HDEEP
                  have hbvr : ¬ vr.ownBlock = some bc := fun e => by
                    have h1 := (HLP.out.st.row.row.lt _ e).2
                    have h2 := HBC.out
                    have h3 := HBSZ.out
                    omega
                  have HLPa := Lib.hid (HLP6.out.keep (pal (w := v8) (.cells #[.int .i64 (k : Int)] 3)))
                  have HMCa := Lib.hid (HMC6.out.below (pal (w := v8) (.cells #[.int .i64 (k : Int)] 3)))
                  have hSc : ∀ j, j = sb ∨ j = mb ∨ vr.ownBlock = some j → j < v5.heap.size ∨ j = bc := fun j hj => by
                    have h3 := HBSZ.out
                    rcases hj with e | e | e
                    · left; omega
                    · left; omega
                    · have h1 := (HLP.out.st.row.row.lt _ e).2; left; omega
                  have HSC := Lib.hid hSc
                  have d1 := HLP6.out.st.sq.at_ 1 _ rfl
                  have dl := HLP6.out.st.sq.lt
                  have hpl0 : pre.length + 1 ≤ 100000000000 := by have := HIN.out.pl; omega
                  clear hSc HMC6
                  go_upto_region 16 with (first
                    | (refine wpList_nums rfl _ _ rfl (fun j => j < (v8.alloc (.cells #[.int .i64 (k : Int)] 3)).heap.size ∧ ¬ vr.ownBlock = some j) vr pre [(k : Int)] rfl (nums_own HLPa.out.st.row) (fun _ h => h.1) _ rfl (src_one _) hpl0 (pre.length + 1) rfl (pre ++ [(k : Int)]) rfl ?_; intro ao2 lc2 Wp hm1 hm2 hT hO; have hpu := OnSt.push HLPa.out.st hs0 HMCa.out HSC.out hbsb hbmb hbvr hsm hT hO; have HPU := Lib.hid hpu; have d1p := hpu.2.2.2.1; have f1p := hpu.2.2.2.2; clear hpu hT hO d1 dl)
                    | fail)
                  have HS6 := Lib.hid HPU.out.1
                  have HO6 := Lib.hid HPU.out.2.1
                  have HV6 := Lib.hid HPU.out.2.2.1
                  have HN6 := Lib.hid (HLPa.out.bits.only HO6.out (fun x => x.elim (fun e => by omega) (fun e => HLPa.out.nb e)))
                  clear HPU d1p f1p
                  generalize Wp.setCell ⟨sb, 1, none⟩ (.slice ao2 (pre.length + 1) lc2) = W6 at *
                  have hq14 := bits_new W6 S
                  have x0 := hq14.at_ k _ (vtv_get hn16n)
                  have f0 := hq14.fr k
                  try dsimp only at x0
                  have HQ14 := Lib.hid hq14
                  clear hq14
                  go_upto_region 18 with (first
                    | (refine wpList_loadBits rfl _ rfl w.heap.size rfl HN6.out ?_)
                    | (refine wpList_allocT rfl 60 rfl _ zeroPlaces ?_)
                    | (refine wpList_storeN rfl 60 _ _ rfl _ _ (bitsA S) rfl rfl rfl (by rw [bitsA_size]; exact sizePlaces) (by rw [bitsA_size, bitsA_size]) (bitsA_one _) ?_)
                    | fail)
                  rw [bits_set S k]
                  have HQ8 := Lib.hid (bits_new W6 (nxS S k))
                  have HW8 := Lib.hid (pal (w := W6) (.cells (bitsA (nxS S k)) 60))
                  clear x0 f0 HQ14
                  generalize W6.alloc (.cells (bitsA (nxS S k)) 60) = W8 at *
                  have HS8 := Lib.hid (HS6.out.keep HW8.out)
                  have ci := HIH.out (lefS S L.length - 1) (by have := HLF.out; have := HR.out; omega) bc (.slice ao2 (pre.length + 1) lc2) (pre ++ [(k : Int)]) (nxS S k) M nr Dr Tr W8 HDEEP.out.2 hbsb hbmb (by have h1 := HBC.out; have h2 := HBSZ.out; have h3 := HLP.out.st.be.size; omega) HS8.out HDEEP.out.1
                  unfold OnIs at ci
                  go_wp2_with (first
                    | (refine wpList_loadBits (S := nxS S k) rfl _ rfl W6.heap.size rfl HQ8.out ?_)
                    | (go_at_call 20; ((with_reducible refine ci.mono ?_); clear ci; rintro e w9 ⟨Bz, v3, rfl, ho9, hq9, hv9, hres⟩; cases Bz))
                    | fail)
                  · rcases hres with ⟨h, _⟩ | ⟨_, hf, hr, n', D', T', hset, hmem, hsto, hout, hn'⟩
                    · cases h
                    obtain ⟨g3, cap3, rfl, _⟩ := row_at hr.row (by simp)
                    have hfm := hr.form
                    obtain ⟨ao4, cap4, e4, hm3, hm4⟩ := hfm
                    simp only [Value.slice.injEq] at e4
                    obtain ⟨-, -, rfl⟩ := e4
                    unfold maxLen at hm4
                    have hle : (pre ++ [(k : Int)]).length = pre.length + 1 := by simp
                    rw [hle] at hm3 hr hq9 hv9
                    have d1 := hq9.at_ 1 _ rfl
                    have f1 := hq9.fr 1
                    have dl := hq9.lt
                    have HQ9 := Lib.hid hq9
                    have HV9 := Lib.hid hv9
                    have HR9 := Lib.hid hr
                    have HO9 := Lib.hid (only_chain HO6.out HW8.out ho9 HV6.out)
                    have HSE := Lib.hid hset
                    have HW81 := Lib.hid HW8.out.size
                    have HO61 := Lib.hid HO6.out.size
                    clear hq9 hv9 hr ho9 hset HLP6 HS6 HS8 HN6 HQ8 HIH
                    go_region
                    have o3 : Only (fun j => j = sb) w9 (w9.setCell ⟨sb, 1, none⟩ (.slice (some ⟨g3, 0, none⟩) pre.length cap3)) := (Only.refl (fun j => j = sb) w9).setCell (p := ⟨sb, 1, none⟩) (.inl rfl) _
                    have h4 := HQ9.out.set 1 (.slice (some ⟨g3, 0, none⟩) pre.length cap3) (by simp)
                    have h5 := (HR9.out.take (m := pre.length) (by simp)).only o3 (fun j hj => .inl hj)
                    rw [List.take_left] at h5
                    have hbk := HLPa.out.back hs0 hm0 hsm hps hpm HV.out hlt hs3 HM3.out (w9 := w9) (v4 := (.slice (some ⟨g3, 0, none⟩) pre.length cap3)) (HO9.out.setCell (p := ⟨sb, 1, none⟩) (.inl (.inl rfl)) (.slice (some ⟨g3, 0, none⟩) pre.length cap3)) h4 (fun j hj e => HV6.out j hj (HV9.out j (by have := HO61.out; have := HW81.out; omega) (by simpa [Value.ownBlock] using e))) (by rw [HDO.out]; exact hf) h5 (ownsMap_only HSE.out o3 (fun e => hsm e.symm)) hmem hsto hout (by rw [← HDEEP.out.2]; exact hn') HLF.out
                    have HBK := Lib.hid hbk
                    clear hbk h4 h5 o3 HLPa HQ9 HV9 HR9 HO9 HSE hf hmem hsto hout hn' d1 f1 dl hm3 hm4
                    go_wp2_with (fail)
                    go_roundw
                    case rel => exact ⟨k + 1, _, n', D', T', by omega, by go_num, HBK.out.keep ((Below.refl _ _).drew)⟩
                    case measure => simp [intOf]; omega
                  · rcases hres with ⟨_, l, hc, hr⟩ | ⟨h, _⟩
                    rotate_left
                    · cases h
                    have hwn := HLPa.out.won HNX.out HTLQ.out (v2 := v3) (only_chain HO6.out HW8.out ho9 HV6.out) hq9 (fun j hj e => HV6.out j hj (hv9 j (by have := HO6.out.size; have := HW8.out.size; omega) e)) (by rw [HDO.out]; exact hc) hr
                    have HWN := Lib.hid hwn
                    clear hwn hc hr ho9 hq9 hv9
                    go_ret
                    exact HWN.out
                · cases E
                  · go_wp2_with (first
                      | (go_at_call 31; ((with_reducible refine (cf _).mono ?_); rintro e v4 ⟨rfl, hb4⟩; have HLP2 := Lib.hid (HLP1.out.keep hb4); have HQ2 := Lib.hid (HQ1.out.keep hb4); have HB2 := Lib.hid (pb2 (pal _) hb4); have q0 := HQ2.out.at_ 0 _ rfl; have q1 := HQ2.out.at_ 1 _ rfl; have q2 := HQ2.out.at_ 2 _ rfl; have q3 := HQ2.out.at_ 3 _ rfl; have q4 := HQ2.out.at_ 4 _ rfl; have q5 := HQ2.out.at_ 5 _ rfl; have q6 := HQ2.out.at_ 6 _ rfl; have q7 := HQ2.out.at_ 7 _ rfl; have q8 := HQ2.out.at_ 8 _ rfl; have q9 := HQ2.out.at_ 9 _ rfl; have q10 := HQ2.out.at_ 10 _ rfl; have q11 := HQ2.out.at_ 11 _ rfl; have q12 := HQ2.out.at_ 12 _ rfl; clear hb4 cf hbn c0 c1 c2 c3 c4 c5 c6 c7 c8 c9 c10 c11 c12))
                      | (refine wpList_loadBitsG (by rfl) _ rfl w.heap.size rfl HLP2.out.bits ?_)
                      | (go_at_call 32; ((with_reducible refine (cy _ (HLP2.out.st.sq.at_ 0 _ rfl) (HC.out.keep HLP2.out.st.be)).mono ?_); rintro e v5 ⟨rfl, hb5⟩; clear q0 q1 q2 q3 q4 q5 q6 q7 q8 q9 q10 q11 q12; have HLP3 := Lib.hid (HLP2.out.keep hb5); have HQ3 := Lib.hid (HQ2.out.keep hb5); have HB3 := Lib.hid (pb2 HB2.out hb5); have q0 := HQ3.out.at_ 0 _ rfl; have q1 := HQ3.out.at_ 1 _ rfl; have q2 := HQ3.out.at_ 2 _ rfl; have q3 := HQ3.out.at_ 3 _ rfl; have q4 := HQ3.out.at_ 4 _ rfl; have q5 := HQ3.out.at_ 5 _ rfl; have q6 := HQ3.out.at_ 6 _ rfl; have q7 := HQ3.out.at_ 7 _ rfl; have q8 := HQ3.out.at_ 8 _ rfl; have q9 := HQ3.out.at_ 9 _ rfl; have q10 := HQ3.out.at_ 10 _ rfl; have q11 := HQ3.out.at_ 11 _ rfl; have q12 := HQ3.out.at_ 12 _ rfl; clear hb5 cy))
                      | (go_at_call 33; ((with_reducible refine (mcopy_any mp _ m _ HLP3.out.st.mp_ hml2).mono ?_); rintro e v6 ⟨bc, rfl, hbc, hmc, hb6⟩; clear q0 q1 q2 q3 q4 q5 q6 q7 q8 q9 q10 q11 q12; have HB56 := Lib.hid hb6; have HBC := Lib.hid hbc; have HMC4 := Lib.hid hmc; have HQ4 := Lib.hid (HQ3.out.keep hb6); have q0 := HQ4.out.at_ 0 _ rfl; have q1 := HQ4.out.at_ 1 _ rfl; have q2 := HQ4.out.at_ 2 _ rfl; have q3 := HQ4.out.at_ 3 _ rfl; have q4 := HQ4.out.at_ 4 _ rfl; have q5 := HQ4.out.at_ 5 _ rfl; have q6 := HQ4.out.at_ 6 _ rfl; have q7 := HQ4.out.at_ 7 _ rfl; have q8 := HQ4.out.at_ 8 _ rfl; have q9 := HQ4.out.at_ 9 _ rfl; have q10 := HQ4.out.at_ 10 _ rfl; have q11 := HQ4.out.at_ 11 _ rfl; have q12 := HQ4.out.at_ 12 _ rfl; clear hbc hmc hb6))
                      | (go_at_call 34; ((with_reducible refine (cd _ _ bc HMC4.out (fun j hj => hj.elim (fun e => Nat.lt_of_lt_of_le e HB56.out.size) (fun e => e ▸ HMC4.out.lt))).mono ?_); rintro e v7 ⟨aa, ca, rfl, hm7, hr7, ho7⟩; clear q0 q1 q2 q3 q4 q5 q6 q7 q8 q9 q10 q11 q12; have hb7 := HB56.out.trans (ho7.below (fun i hi => by have e7 : i = bc := hi; have := HBC.out; omega) HB56.out.size); have HLP5 := Lib.hid (HLP3.out.keep hb7); have HQ5 := Lib.hid (HQ3.out.keep hb7); have HB5 := Lib.hid (pb2 HB3.out hb7); have HMC5 := Lib.hid hm7; have HR5 := Lib.hid (hr7.prs rfl); have HT5 := Lib.hid (Bq.new v7 #[.int .i64 A.err, .bool A.ok, .int .i64 A.k, .int .i64 A.v, .int .i64 A.n, .slice aa A.ps.length ca] 34); have q0 := HQ5.out.at_ 0 _ rfl; have q1 := HQ5.out.at_ 1 _ rfl; have q2 := HQ5.out.at_ 2 _ rfl; have q3 := HQ5.out.at_ 3 _ rfl; have q4 := HQ5.out.at_ 4 _ rfl; have q5 := HQ5.out.at_ 5 _ rfl; have q6 := HQ5.out.at_ 6 _ rfl; have q7 := HQ5.out.at_ 7 _ rfl; have q8 := HQ5.out.at_ 8 _ rfl; have q9 := HQ5.out.at_ 9 _ rfl; have q10 := HQ5.out.at_ 10 _ rfl; have q11 := HQ5.out.at_ 11 _ rfl; have q12 := HQ5.out.at_ 12 _ rfl; have hlq := HQ5.out.lt; clear hm7 hr7 ho7 hb7 cd))
                      | (go_at_call 35; ((with_reducible refine (cr _).mono ?_); rintro e v8 ⟨rfl, hb8⟩; clear q0 q1 q2 q3 q4 q5 q6 q7 q8 q9 q10 q11 q12; have hb9 := pb2 (pal (w := v7) (.cells #[.int .i64 A.err, .bool A.ok, .int .i64 A.k, .int .i64 A.v, .int .i64 A.n, .slice aa A.ps.length ca] 34)) hb8; have HLP6 := Lib.hid (HLP5.out.keep hb9); have HQ6 := Lib.hid (HQ5.out.keep hb9); have HB6 := Lib.hid (pb2 HB5.out hb9); have HMC6 := Lib.hid (HMC5.out.below hb9); have HR6 := Lib.hid (HR5.out.below hb9); have HT6 := Lib.hid (HT5.out.keep hb8); have q0 := HQ6.out.at_ 0 _ rfl; have q1 := HQ6.out.at_ 1 _ rfl; have q2 := HQ6.out.at_ 2 _ rfl; have q3 := HQ6.out.at_ 3 _ rfl; have q4 := HQ6.out.at_ 4 _ rfl; have q5 := HQ6.out.at_ 5 _ rfl; have q6 := HQ6.out.at_ 6 _ rfl; have q7 := HQ6.out.at_ 7 _ rfl; have q8 := HQ6.out.at_ 8 _ rfl; have q9 := HQ6.out.at_ 9 _ rfl; have q10 := HQ6.out.at_ 10 _ rfl; have q11 := HQ6.out.at_ 11 _ rfl; have q12 := HQ6.out.at_ 12 _ rfl; have a0 := HT6.out.at_ 0 _ rfl; have a1 := HT6.out.at_ 1 _ rfl; have a2 := HT6.out.at_ 2 _ rfl; have a3 := HT6.out.at_ 3 _ rfl; have a4 := HT6.out.at_ 4 _ rfl; have a5 := HT6.out.at_ 5 _ rfl; clear hb8 hb9 cr))
                      | (go_at_call 36; ((with_reducible refine (csm _ _ _ HR6.out (HPA.out.below HB6.out)).mono ?_); rintro e v9 ⟨rfl, hb10⟩; clear q0 q1 q2 q3 q4 q5 q6 q7 q8 q9 q10 q11 q12; clear a0 a1 a2 a3 a4 a5; have HLP7 := Lib.hid (HLP6.out.keep hb10); have HMC7 := Lib.hid (HMC6.out.below hb10); clear hb10 csm))
                      | fail)
                    go_roundw
                    case rel => exact ⟨k + 1, vr, nr, Dr, Tr, by omega, by go_num, HLP7.out.skip (fun _ h => by
                      have h1 := HTL.out.1 h (of_decide_eq_true HG.out)
                      refine absurd ?_ (of_decide_eq_false HE.out)
                      rw [h1]; exact AdEq.refl _)⟩
                    case measure => simp [intOf]; omega
                  · go_upto_region 15 with (first
                      | (go_at_call 31; ((with_reducible refine (cf _).mono ?_); rintro e v4 ⟨rfl, hb4⟩; have HLP2 := Lib.hid (HLP1.out.keep hb4); have HQ2 := Lib.hid (HQ1.out.keep hb4); have HB2 := Lib.hid (pb2 (pal _) hb4); have q0 := HQ2.out.at_ 0 _ rfl; have q1 := HQ2.out.at_ 1 _ rfl; have q2 := HQ2.out.at_ 2 _ rfl; have q3 := HQ2.out.at_ 3 _ rfl; have q4 := HQ2.out.at_ 4 _ rfl; have q5 := HQ2.out.at_ 5 _ rfl; have q6 := HQ2.out.at_ 6 _ rfl; have q7 := HQ2.out.at_ 7 _ rfl; have q8 := HQ2.out.at_ 8 _ rfl; have q9 := HQ2.out.at_ 9 _ rfl; have q10 := HQ2.out.at_ 10 _ rfl; have q11 := HQ2.out.at_ 11 _ rfl; have q12 := HQ2.out.at_ 12 _ rfl; clear hb4 cf hbn c0 c1 c2 c3 c4 c5 c6 c7 c8 c9 c10 c11 c12))
                      | (refine wpList_loadBitsG (by rfl) _ rfl w.heap.size rfl HLP2.out.bits ?_)
                      | (go_at_call 32; ((with_reducible refine (cy _ (HLP2.out.st.sq.at_ 0 _ rfl) (HC.out.keep HLP2.out.st.be)).mono ?_); rintro e v5 ⟨rfl, hb5⟩; clear q0 q1 q2 q3 q4 q5 q6 q7 q8 q9 q10 q11 q12; have HLP3 := Lib.hid (HLP2.out.keep hb5); have HQ3 := Lib.hid (HQ2.out.keep hb5); have HB3 := Lib.hid (pb2 HB2.out hb5); have q0 := HQ3.out.at_ 0 _ rfl; have q1 := HQ3.out.at_ 1 _ rfl; have q2 := HQ3.out.at_ 2 _ rfl; have q3 := HQ3.out.at_ 3 _ rfl; have q4 := HQ3.out.at_ 4 _ rfl; have q5 := HQ3.out.at_ 5 _ rfl; have q6 := HQ3.out.at_ 6 _ rfl; have q7 := HQ3.out.at_ 7 _ rfl; have q8 := HQ3.out.at_ 8 _ rfl; have q9 := HQ3.out.at_ 9 _ rfl; have q10 := HQ3.out.at_ 10 _ rfl; have q11 := HQ3.out.at_ 11 _ rfl; have q12 := HQ3.out.at_ 12 _ rfl; clear hb5 cy))
                      | (go_at_call 33; ((with_reducible refine (mcopy_any mp _ m _ HLP3.out.st.mp_ hml2).mono ?_); rintro e v6 ⟨bc, rfl, hbc, hmc, hb6⟩; clear q0 q1 q2 q3 q4 q5 q6 q7 q8 q9 q10 q11 q12; have HB56 := Lib.hid hb6; have HBC := Lib.hid hbc; have HMC4 := Lib.hid hmc; have HQ4 := Lib.hid (HQ3.out.keep hb6); have q0 := HQ4.out.at_ 0 _ rfl; have q1 := HQ4.out.at_ 1 _ rfl; have q2 := HQ4.out.at_ 2 _ rfl; have q3 := HQ4.out.at_ 3 _ rfl; have q4 := HQ4.out.at_ 4 _ rfl; have q5 := HQ4.out.at_ 5 _ rfl; have q6 := HQ4.out.at_ 6 _ rfl; have q7 := HQ4.out.at_ 7 _ rfl; have q8 := HQ4.out.at_ 8 _ rfl; have q9 := HQ4.out.at_ 9 _ rfl; have q10 := HQ4.out.at_ 10 _ rfl; have q11 := HQ4.out.at_ 11 _ rfl; have q12 := HQ4.out.at_ 12 _ rfl; clear hbc hmc hb6))
                      | (go_at_call 34; ((with_reducible refine (cd _ _ bc HMC4.out (fun j hj => hj.elim (fun e => Nat.lt_of_lt_of_le e HB56.out.size) (fun e => e ▸ HMC4.out.lt))).mono ?_); rintro e v7 ⟨aa, ca, rfl, hm7, hr7, ho7⟩; clear q0 q1 q2 q3 q4 q5 q6 q7 q8 q9 q10 q11 q12; have hb7 := HB56.out.trans (ho7.below (fun i hi => by have e7 : i = bc := hi; have := HBC.out; omega) HB56.out.size); have HLP5 := Lib.hid (HLP3.out.keep hb7); have HQ5 := Lib.hid (HQ3.out.keep hb7); have HB5 := Lib.hid (pb2 HB3.out hb7); have HMC5 := Lib.hid hm7; have HR5 := Lib.hid (hr7.prs rfl); have HT5 := Lib.hid (Bq.new v7 #[.int .i64 A.err, .bool A.ok, .int .i64 A.k, .int .i64 A.v, .int .i64 A.n, .slice aa A.ps.length ca] 34); have q0 := HQ5.out.at_ 0 _ rfl; have q1 := HQ5.out.at_ 1 _ rfl; have q2 := HQ5.out.at_ 2 _ rfl; have q3 := HQ5.out.at_ 3 _ rfl; have q4 := HQ5.out.at_ 4 _ rfl; have q5 := HQ5.out.at_ 5 _ rfl; have q6 := HQ5.out.at_ 6 _ rfl; have q7 := HQ5.out.at_ 7 _ rfl; have q8 := HQ5.out.at_ 8 _ rfl; have q9 := HQ5.out.at_ 9 _ rfl; have q10 := HQ5.out.at_ 10 _ rfl; have q11 := HQ5.out.at_ 11 _ rfl; have q12 := HQ5.out.at_ 12 _ rfl; have hlq := HQ5.out.lt; clear hm7 hr7 ho7 hb7 cd))
                      | (go_at_call 35; ((with_reducible refine (cr _).mono ?_); rintro e v8 ⟨rfl, hb8⟩; clear q0 q1 q2 q3 q4 q5 q6 q7 q8 q9 q10 q11 q12; have hb9 := pb2 (pal (w := v7) (.cells #[.int .i64 A.err, .bool A.ok, .int .i64 A.k, .int .i64 A.v, .int .i64 A.n, .slice aa A.ps.length ca] 34)) hb8; have HLP6 := Lib.hid (HLP5.out.keep hb9); have HQ6 := Lib.hid (HQ5.out.keep hb9); have HB6 := Lib.hid (pb2 HB5.out hb9); have HMC6 := Lib.hid (HMC5.out.below hb9); have HR6 := Lib.hid (HR5.out.below hb9); have HT6 := Lib.hid (HT5.out.keep hb8); have q0 := HQ6.out.at_ 0 _ rfl; have q1 := HQ6.out.at_ 1 _ rfl; have q2 := HQ6.out.at_ 2 _ rfl; have q3 := HQ6.out.at_ 3 _ rfl; have q4 := HQ6.out.at_ 4 _ rfl; have q5 := HQ6.out.at_ 5 _ rfl; have q6 := HQ6.out.at_ 6 _ rfl; have q7 := HQ6.out.at_ 7 _ rfl; have q8 := HQ6.out.at_ 8 _ rfl; have q9 := HQ6.out.at_ 9 _ rfl; have q10 := HQ6.out.at_ 10 _ rfl; have q11 := HQ6.out.at_ 11 _ rfl; have q12 := HQ6.out.at_ 12 _ rfl; have a0 := HT6.out.at_ 0 _ rfl; have a1 := HT6.out.at_ 1 _ rfl; have a2 := HT6.out.at_ 2 _ rfl; have a3 := HT6.out.at_ 3 _ rfl; have a4 := HT6.out.at_ 4 _ rfl; have a5 := HT6.out.at_ 5 _ rfl; clear hb8 hb9 cr))
                      | (go_at_call 36; ((with_reducible refine (csm _ _ _ HR6.out (HPA.out.below HB6.out)).mono ?_); rintro e v9 ⟨rfl, hb10⟩; clear q0 q1 q2 q3 q4 q5 q6 q7 q8 q9 q10 q11 q12; clear a0 a1 a2 a3 a4 a5; have HLP7 := Lib.hid (HLP6.out.keep hb10); have HMC7 := Lib.hid (HMC6.out.below hb10); clear hb10 csm))
                      | fail)
                    have HTLQ := Lib.hid (HTL.out.2 (fun _ => adEq_eq (of_decide_eq_true HE.out)))
                    have HBSZ := Lib.hid HB3.out.size
                    clear HQ1 HQ2 HQ3 HQ4 HQ5 HQ6 HT5 HT6 HR5 HR6 HLP1 HLP2 HLP3 HB2 HB3 HPA
                    have hbsb : ¬ bc = sb := by have h1 := HBC.out; have h2 := HBSZ.out; omega
                    have hbmb : ¬ bc = mb := by have h1 := HBC.out; have h2 := HBSZ.out; omega
                    have HDEEP := Lib.hid (OnLp.deep HLP7.out HIN.out hn HV.out hlt HLF.out (HOV.out k hlt))
                    rw [HDO.out] at HDEEP
                    have hbvr : ¬ vr.ownBlock = some bc := fun e => by
                      have h1 := (HLP.out.st.row.row.lt _ e).2
                      have h2 := HBC.out
                      have h3 := HBSZ.out
                      omega
                    have HLPa := Lib.hid (HLP7.out.keep (pal (w := v9) (.cells #[.int .i64 (k : Int)] 3)))
                    have HMCa := Lib.hid (HMC7.out.below (pal (w := v9) (.cells #[.int .i64 (k : Int)] 3)))
                    have hSc : ∀ j, j = sb ∨ j = mb ∨ vr.ownBlock = some j → j < v5.heap.size ∨ j = bc := fun j hj => by
                      have h3 := HBSZ.out
                      rcases hj with e | e | e
                      · left; omega
                      · left; omega
                      · have h1 := (HLP.out.st.row.row.lt _ e).2; left; omega
                    have HSC := Lib.hid hSc
                    have d1 := HLP7.out.st.sq.at_ 1 _ rfl
                    have dl := HLP7.out.st.sq.lt
                    have hpl0 : pre.length + 1 ≤ 100000000000 := by have := HIN.out.pl; omega
                    clear hSc HMC7
                    go_upto_region 16 with (first
                      | (refine wpList_nums rfl _ _ rfl (fun j => j < (v9.alloc (.cells #[.int .i64 (k : Int)] 3)).heap.size ∧ ¬ vr.ownBlock = some j) vr pre [(k : Int)] rfl (nums_own HLPa.out.st.row) (fun _ h => h.1) _ rfl (src_one _) hpl0 (pre.length + 1) rfl (pre ++ [(k : Int)]) rfl ?_; intro ao2 lc2 Wp hm1 hm2 hT hO; have hpu := OnSt.push HLPa.out.st hs0 HMCa.out HSC.out hbsb hbmb hbvr hsm hT hO; have HPU := Lib.hid hpu; have d1p := hpu.2.2.2.1; have f1p := hpu.2.2.2.2; clear hpu hT hO d1 dl)
                      | fail)
                    have HS6 := Lib.hid HPU.out.1
                    have HO6 := Lib.hid HPU.out.2.1
                    have HV6 := Lib.hid HPU.out.2.2.1
                    have HN6 := Lib.hid (HLPa.out.bits.only HO6.out (fun x => x.elim (fun e => by omega) (fun e => HLPa.out.nb e)))
                    clear HPU d1p f1p
                    generalize Wp.setCell ⟨sb, 1, none⟩ (.slice ao2 (pre.length + 1) lc2) = W6 at *
                    have hq14 := bits_new W6 S
                    have x0 := hq14.at_ k _ (vtv_get hn16n)
                    have f0 := hq14.fr k
                    try dsimp only at x0
                    have HQ14 := Lib.hid hq14
                    clear hq14
                    go_upto_region 18 with (first
                      | (refine wpList_loadBits rfl _ rfl w.heap.size rfl HN6.out ?_)
                      | (refine wpList_allocT rfl 60 rfl _ zeroPlaces ?_)
                      | (refine wpList_storeN rfl 60 _ _ rfl _ _ (bitsA S) rfl rfl rfl (by rw [bitsA_size]; exact sizePlaces) (by rw [bitsA_size, bitsA_size]) (bitsA_one _) ?_)
                      | fail)
                    rw [bits_set S k]
                    have HQ8 := Lib.hid (bits_new W6 (nxS S k))
                    have HW8 := Lib.hid (pal (w := W6) (.cells (bitsA (nxS S k)) 60))
                    clear x0 f0 HQ14
                    generalize W6.alloc (.cells (bitsA (nxS S k)) 60) = W8 at *
                    have HS8 := Lib.hid (HS6.out.keep HW8.out)
                    have ci := HIH.out (lefS S L.length - 1) (by have := HLF.out; have := HR.out; omega) bc (.slice ao2 (pre.length + 1) lc2) (pre ++ [(k : Int)]) (nxS S k) M nr Dr Tr W8 HDEEP.out.2 hbsb hbmb (by have h1 := HBC.out; have h2 := HBSZ.out; have h3 := HLP.out.st.be.size; omega) HS8.out HDEEP.out.1
                    unfold OnIs at ci
                    go_wp2_with (first
                      | (refine wpList_loadBits (S := nxS S k) rfl _ rfl W6.heap.size rfl HQ8.out ?_)
                      | (go_at_call 20; ((with_reducible refine ci.mono ?_); clear ci; rintro e w9 ⟨Bz, v3, rfl, ho9, hq9, hv9, hres⟩; cases Bz))
                      | fail)
                    · rcases hres with ⟨h, _⟩ | ⟨_, hf, hr, n', D', T', hset, hmem, hsto, hout, hn'⟩
                      · cases h
                      obtain ⟨g3, cap3, rfl, _⟩ := row_at hr.row (by simp)
                      have hfm := hr.form
                      obtain ⟨ao4, cap4, e4, hm3, hm4⟩ := hfm
                      simp only [Value.slice.injEq] at e4
                      obtain ⟨-, -, rfl⟩ := e4
                      unfold maxLen at hm4
                      have hle : (pre ++ [(k : Int)]).length = pre.length + 1 := by simp
                      rw [hle] at hm3 hr hq9 hv9
                      have d1 := hq9.at_ 1 _ rfl
                      have f1 := hq9.fr 1
                      have dl := hq9.lt
                      have HQ9 := Lib.hid hq9
                      have HV9 := Lib.hid hv9
                      have HR9 := Lib.hid hr
                      have HO9 := Lib.hid (only_chain HO6.out HW8.out ho9 HV6.out)
                      have HSE := Lib.hid hset
                      have HW81 := Lib.hid HW8.out.size
                      have HO61 := Lib.hid HO6.out.size
                      clear hq9 hv9 hr ho9 hset HLP7 HS6 HS8 HN6 HQ8 HIH
                      go_region
                      have o3 : Only (fun j => j = sb) w9 (w9.setCell ⟨sb, 1, none⟩ (.slice (some ⟨g3, 0, none⟩) pre.length cap3)) := (Only.refl (fun j => j = sb) w9).setCell (p := ⟨sb, 1, none⟩) (.inl rfl) _
                      have h4 := HQ9.out.set 1 (.slice (some ⟨g3, 0, none⟩) pre.length cap3) (by simp)
                      have h5 := (HR9.out.take (m := pre.length) (by simp)).only o3 (fun j hj => .inl hj)
                      rw [List.take_left] at h5
                      have hbk := HLPa.out.back hs0 hm0 hsm hps hpm HV.out hlt hs3 HM3.out (w9 := w9) (v4 := (.slice (some ⟨g3, 0, none⟩) pre.length cap3)) (HO9.out.setCell (p := ⟨sb, 1, none⟩) (.inl (.inl rfl)) (.slice (some ⟨g3, 0, none⟩) pre.length cap3)) h4 (fun j hj e => HV6.out j hj (HV9.out j (by have := HO61.out; have := HW81.out; omega) (by simpa [Value.ownBlock] using e))) (by rw [HDO.out]; exact hf) h5 (ownsMap_only HSE.out o3 (fun e => hsm e.symm)) hmem hsto hout (by rw [← HDEEP.out.2]; exact hn') HLF.out
                      have HBK := Lib.hid hbk
                      clear hbk h4 h5 o3 HLPa HQ9 HV9 HR9 HO9 HSE hf hmem hsto hout hn' d1 f1 dl hm3 hm4
                      go_wp2_with (fail)
                      go_roundw
                      case rel => exact ⟨k + 1, _, n', D', T', by omega, by go_num, HBK.out.keep ((Below.refl _ _).drew)⟩
                      case measure => simp [intOf]; omega
                    · rcases hres with ⟨_, l, hc, hr⟩ | ⟨h, _⟩
                      rotate_left
                      · cases h
                      have hwn := HLPa.out.won HNX.out HTLQ.out (v2 := v3) (only_chain HO6.out HW8.out ho9 HV6.out) hq9 (fun j hj e => HV6.out j hj (hv9 j (by have := HO6.out.size; have := HW8.out.size; omega) e)) (by rw [HDO.out]; exact hc) hr
                      have HWN := Lib.hid hwn
                      clear hwn hc hr ho9 hq9 hv9
                      go_ret
                      exact HWN.out
        · obtain rfl : k = L.length := by omega
          clear hlp
          go_wp2_with (fail)
          go_ret
          exact HLP.out.fin HL.out
end Go.Proofs.Ytadfnbmogobopaa
