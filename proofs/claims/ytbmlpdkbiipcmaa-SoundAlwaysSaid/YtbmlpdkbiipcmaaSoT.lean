/- Contract of sound's first over the treap of sorted pairs, by induction. -/
import Derived.Test.YtbmlpdkbiipcmaaSoS
import Derived.Deep.CutRange
import Derived.Deep.CutBlock
namespace Go.Proofs.Ytbmlpdkbiipcmaa
open Go.RowKit Go.Maps
set_option linter.all false

/-- The frame of a first behind its node. -/
structure Fr (w1 W0 W : World) (p fb nb bo bs n : Nat) (k v x y s h : Int) (L : List It) (rep : Rep) (Do Ds : DW) : Prop where
  b0 : W.cell? ⟨fb, 0, none⟩ = some (.pointer (some ⟨p, 0, none⟩))
  b1 : W.cell? ⟨fb, 1, none⟩ = some (.map (some bo))
  b2 : W.cell? ⟨fb, 2, none⟩ = some (.map (some bs))
  nd : NodeAt W nb k v x y s h
  m : Sm W bo bs n L rep Do Ds
  o : Only (fun j => j = bo ∨ j = bs) W0 W
  b : Below w1.heap.size w1 W
  l1 : w1.heap.size ≤ bo
  l2 : w1.heap.size ≤ bs
  ef : ¬ (fb = bo ∨ fb = bs)
  en : ¬ (nb = bo ∨ nb = bs)

section
variable {w1 W0 W W' : World} {p fb nb bo bs n : Nat} {k v x y s h : Int} {L : List It} {rep : Rep} {Do Ds : DW} {l : List Pr} {e : Ending}
theorem Fr.only (H : Fr w1 W0 W p fb nb bo bs n k v x y s h L rep Do Ds) (o : Only (fun j => j = bo ∨ j = bs) W W') {n' : Nat} {rep' : Rep} {Do' Ds' : DW} (hm : Sm W' bo bs n' L rep' Do' Ds') : Fr w1 W0 W' p fb nb bo bs n' k v x y s h L rep' Do' Ds' :=
  ⟨o.cell H.b0 H.ef, o.cell H.b1 H.ef, o.cell H.b2 H.ef, H.nd.only o H.en, hm, H.o.trans o (fun _ hi _ => hi), H.b.trans (o.below (fun i hi => hi.elim (fun e => e ▸ H.l1) (fun e => e ▸ H.l2)) H.b.size), H.l1, H.l2, H.ef, H.en⟩
theorem Fr.keep (H : Fr w1 W0 W p fb nb bo bs n k v x y s h L rep Do Ds) (hb : Below W.heap.size W W') : Fr w1 W0 W' p fb nb bo bs n k v x y s h L rep Do Ds :=
  H.only ((Only.ofBelow (S := fun _ => False) hb).mono (fun _ hf _ => hf.elim)) (H.m.keep hb)
theorem Fr.called (H : Fr w1 W0 W p fb nb bo bs n k v x y s h L rep Do Ds) (c : FirstSays W bo bs n L l rep e W') :
    ∃ (r : Int) (rep' : Rep) (Do' Ds' : DW), e = .returned (.int .i64 r) ∧ rep0 rep' l = some r ∧ Mono rep rep' ∧ Fr w1 W0 W' p fb nb bo bs (n + l.length) k v x y s h L rep' Do' Ds' ∧ Only (fun j => j = bo ∨ j = bs) W W' := by
  obtain ⟨r, rep', Do', Ds', h1, h2, h3, h4, h5⟩ := c
  exact ⟨r, rep', Do', Ds', h1, h2, h3, H.only h5 h4, h5⟩
theorem Fr.cells (H : Fr w1 W0 W p fb nb bo bs n k v x y s h L rep Do Ds) : (W.cell? ⟨fb, 0, none⟩ = some (.pointer (some ⟨p, 0, none⟩)) ∧ W.cell? ⟨fb, 1, none⟩ = some (.map (some bo)) ∧ W.cell? ⟨fb, 2, none⟩ = some (.map (some bs))) ∧
    W.cell? ⟨nb, 0, none⟩ = some (.int .i64 k) ∧ W.cell? ⟨nb, 1, none⟩ = some (.int .i64 v) ∧ W.cell? ⟨nb, 2, none⟩ = some (.int .i64 x) ∧ W.cell? ⟨nb, 3, none⟩ = some (.int .i64 y) := ⟨⟨H.b0, H.b1, H.b2⟩, H.nd.c0, H.nd.c1, H.nd.c2, H.nd.c3⟩
theorem Fr.begin {w2 : World} (hm : Sm W0 bo bs n L rep Do Ds) (hb : Below w1.heap.size w1 W0) (l1 : w1.heap.size ≤ bo) (l2 : w1.heap.size ≤ bs) (h2 : Below (W0.alloc (.cells #[.pointer (some ⟨p, 0, none⟩), .map (some bo), .map (some bs)] 74)).heap.size (W0.alloc (.cells #[.pointer (some ⟨p, 0, none⟩), .map (some bo), .map (some bs)] 74)) w2) :
    Fr w1 W0 (w2.alloc (.cells #[.int .i64 k, .int .i64 v, .int .i64 x, .int .i64 y, .int .i64 s, .int .i64 h] 41)) p W0.heap.size w2.heap.size bo bs n k v x y s h L rep Do Ds := by
  have hs := h2.size
  simp only [World.size_alloc] at hs
  have o := (below_past (Below.refl _ W0) h2)
  have o3 := o.alloc o.size (.cells #[.int .i64 k, .int .i64 v, .int .i64 x, .int .i64 y, .int .i64 s, .int .i64 h] 41)
  have h3 := h2.alloc h2.size (.cells #[.int .i64 k, .int .i64 v, .int .i64 x, .int .i64 y, .int .i64 s, .int .i64 h] 41)
  have lt : W0.heap.size < (W0.alloc (.cells #[.pointer (some ⟨p, 0, none⟩), .map (some bo), .map (some bs)] 74)).heap.size := by simp
  have e1 := hm.ltI
  have e2 := hm.ltS
  have g : ∀ j u, (W0.alloc (.cells #[.pointer (some ⟨p, 0, none⟩), .map (some bo), .map (some bs)] 74)).cell? ⟨W0.heap.size, j, none⟩ = some u → (w2.alloc (.cells #[.int .i64 k, .int .i64 v, .int .i64 x, .int .i64 y, .int .i64 s, .int .i64 h] 41)).cell? ⟨W0.heap.size, j, none⟩ = some u := fun j u hu => (h3.cell (p := ⟨W0.heap.size, j, none⟩) lt).trans hu
  exact ⟨g _ _ (by simp), g _ _ (by simp), g _ _ (by simp), (Six.new _ _ _ _ _ _ _ _).toNodeAt, hm.keep o3, (Only.ofBelow (S := fun _ => False) o3).mono (fun _ hf _ => hf.elim), hb.trans (o3.mono hb.size), l1, l2, by omega, by omega⟩
end

/-- What four cells of a block hold. -/
structure Four (W : World) (b : Nat) (m0 m1 m2 m3 : Int) : Prop where
  c0 : W.cell? ⟨b, 0, none⟩ = some (.int .i64 m0)
  c1 : W.cell? ⟨b, 1, none⟩ = some (.int .i64 m1)
  c2 : W.cell? ⟨b, 2, none⟩ = some (.int .i64 m2)
  c3 : W.cell? ⟨b, 3, none⟩ = some (.int .i64 m3)
structure FourZ (W : World) (b : Nat) : Prop extends Four W b 0 0 0 0 where
  f0 : W.frozen? ⟨b, 0, none⟩ = false
  f1 : W.frozen? ⟨b, 1, none⟩ = false
  f2 : W.frozen? ⟨b, 2, none⟩ = false
  f3 : W.frozen? ⟨b, 3, none⟩ = false
section
variable {W W' : World} {b : Nat} {m0 m1 m2 m3 : Int} {S : Nat → Prop}
theorem Four.new (w : World) (m0 m1 m2 m3 : Int) (t : TypeId) : Four (w.alloc (.cells #[.int .i64 m0, .int .i64 m1, .int .i64 m2, .int .i64 m3] t)) w.heap.size m0 m1 m2 m3 := by constructor <;> simp
theorem Four.lt (h : Four W b m0 m1 m2 m3) : b < W.heap.size := World.block_lt_of_cell? W _ h.c0
theorem Four.only (h : Four W b m0 m1 m2 m3) (o : Only S W W') (hS : ¬ S b) : Four W' b m0 m1 m2 m3 := ⟨o.cell h.c0 hS, o.cell h.c1 hS, o.cell h.c2 hS, o.cell h.c3 hS⟩
theorem FourZ.new (w : World) (t : TypeId) : FourZ (w.alloc (.cells #[.int .i64 0, .int .i64 0, .int .i64 0, .int .i64 0] t)) w.heap.size := by
  refine ⟨⟨?_, ?_, ?_, ?_⟩, ?_, ?_, ?_, ?_⟩ <;> simp
theorem FourZ.only (h : FourZ W b) (o : Only S W W') (hS : ¬ S b) : FourZ W' b :=
  ⟨h.toFour.only o hS, o.keepF h.lt h.f0 hS, o.keepF h.lt h.f1 hS, o.keepF h.lt h.f2 hS, o.keepF h.lt h.f3 hS⟩
theorem FourZ.put (h : FourZ W b) (u0 u1 u2 u3 : Int) : ∃ Wf, Wf = ((((W.setCell ⟨b, 0, none⟩ (.int .i64 u0)).setCell ⟨b, 1, none⟩ (.int .i64 u1)).setCell ⟨b, 2, none⟩ (.int .i64 u2)).setCell ⟨b, 3, none⟩ (.int .i64 u3)) ∧ Four Wf b u0 u1 u2 u3 ∧ Only (fun j => j = b) W Wf :=
  ⟨_, rfl, ⟨keepc (keepc (keepc (World.cell?_setCell_same _ _ _ h.c0) (by decide)) (by decide)) (by decide), keepc (keepc (World.cell?_setCell_same _ _ _ (keepc h.c1 (by decide))) (by decide)) (by decide), keepc (World.cell?_setCell_same _ _ _ (keepc (keepc h.c2 (by decide)) (by decide))) (by decide), World.cell?_setCell_same _ _ _ (keepc (keepc (keepc h.c3 (by decide)) (by decide)) (by decide))⟩,
    ((((Only.refl _ _).setAt _).setAt _).setAt _).setAt _⟩
end
section
variable {w1 W0 W W' : World} {p fb nb bo bs n sb : Nat} {k v x y s h : Int} {L : List It} {rep : Rep} {Do Ds : DW}
theorem Fr.far (H : Fr w1 W0 W p fb nb bo bs n k v x y s h L rep Do Ds) (o : Only (fun j => j = sb) W W') (e : nb < sb ∧ fb < sb ∧ bo < sb ∧ bs < sb ∧ W0.heap.size ≤ sb) : Fr w1 W0 W' p fb nb bo bs n k v x y s h L rep Do Ds :=
  ⟨o.cell H.b0 (by have := e.2.1; show fb ≠ sb; omega), o.cell H.b1 (by have := e.2.1; show fb ≠ sb; omega), o.cell H.b2 (by have := e.2.1; show fb ≠ sb; omega), H.nd.only o (by have := e.1; show nb ≠ sb; omega), H.m.only o (by have := e.2.2.1; show bo ≠ sb; omega) (by have := e.2.2.2.1; show bs ≠ sb; omega),
   H.o.trans o (fun i hi hlt => by have := e.2.2.2.2; omega), H.b.trans (o.below (fun i hi => by have := e.2.2.1; have := H.l1; omega) H.b.size), H.l1, H.l2, H.ef, H.en⟩
theorem Fr.lts (H : Fr w1 W0 W p fb nb bo bs n k v x y s h L rep Do Ds) : nb < W.heap.size ∧ fb < W.heap.size ∧ bo < W.heap.size ∧ bs < W.heap.size ∧ W0.heap.size ≤ W.heap.size :=
  ⟨H.nd.lt, World.block_lt_of_cell? _ _ H.b0, H.m.ltI, H.m.ltS, H.o.size⟩
end
theorem rep_wf {L : List It} {rep : Rep} {Do Ds : DW} (H : Inv L rep Do Ds) (hL : L.length ≤ 60000) {A : List Pr} {a : Int} (h : rep0 rep A = some a) : (Lit.int .i64 a).wf = true := by
  by_cases hA : A = []
  · subst hA
    cases h
    decide
  · rw [rep0_ne _ hA] at h
    obtain ⟨hT, _⟩ := H.tr A a h
    rcases hT.parts with ⟨_, e⟩ | ⟨_, _, _, _, _, _, e, _⟩
    · exact absurd e hA
    · have := itemAt_range e
      exact WalkArith.wf_i64 (by omega)

set_option maxRecDepth 100000 in
set_option maxHeartbeats 6400000 in
theorem first_any {p : Nat} {F : Nat → Prop} {room st : Int} {L : List It} {w1 : World} {bo bs : Nat} (hA : Arena w1 p F room st L) (l1 : w1.heap.size ≤ bo) (l2 : w1.heap.size ≤ bs) :
    ∀ (N : Nat) (l : List Pr) (t : Int) (n : Nat) (rep : Rep) (Do Ds : DW) (W : World), l.length ≤ N → Tree L t l → Srt l → Rng l → l.length ≤ 1000 → n + l.length ≤ 100000 → Sm W bo bs n L rep Do Ds → Below w1.heap.size w1 W →
      Calls Try.prog 33 #[.agg #[.pointer (some ⟨p, 0, none⟩), .map (some bo), .map (some bs)], .int .i64 t] W (FirstSays W bo bs n L l rep) := by
  intro N
  induction N with
  | zero =>
    intro l t n rep Do Ds W hN hT hs _ _ _ hS hb
    rcases hT.apart hs with ⟨rfl, rfl⟩ | ⟨x, y, A, B, q, rfl, ap⟩
    · exact first_nil (hA.below hb) hS
    · simp at hN
  | succ N ih =>
    intro l t n rep Do Ds W hN hT hs hr hl hn hS hb
    rcases hT.apart hs with ⟨rfl, rfl⟩ | ⟨x, y, A, B, q, rfl, ap⟩
    · exact first_nil (hA.below hb) hS
    have ba : Below W.heap.size W (W.alloc (.cells #[.pointer (some ⟨p, 0, none⟩), .map (some bo), .map (some bs)] 74)) := (Below.refl _ _).alloc (Nat.le_refl _) _
    have hI : OwnI (W.alloc (.cells #[.pointer (some ⟨p, 0, none⟩), .map (some bo), .map (some bs)] 74)) bo n Do := (hS.keep ba).i
    have hwt : (Lit.int .i64 t).wf = true := by
      have := itemAt_range ap.item
      have := hA.ok.2.1
      have := hA.ok.2.2
      exact WalkArith.wf_i64 (by omega)
    cases hh : has Do (.int .i64 t)
    · rw [List.length_append, List.length_cons] at hN hl hn
      obtain ⟨sz, hg, cat⟩ := at_apart ((hA.below hb).below ba) ap (by omega)
      obtain ⟨k, v⟩ := q
      dsimp only at cat
      have BG := Lib.hid (fun w2 h2 => Fr.begin (p := p) (k := k) (v := v) (x := x) (y := y) (s := sz) (h := hg) (w2 := w2) hS hb l1 l2 h2)
      have hp := hs.parts
      have htop := top_app hs ap.top
      have hrA : Rng A := fun z hz => hr z (by simp [hz])
      have hrB : Rng B := fun z hz => hr z (by simp [hz])
      have hrq := hr (k, v) (by simp)
      have cA := fun V (hm : Sm V bo bs n L rep Do Ds) (hbV : Below w1.heap.size w1 V) => ih A x n rep Do Ds V (by omega) ap.tx hp.1 hrA (by omega) (by omega) hm hbV
      have cB := fun rep1 Do1 Ds1 V (hm : Sm V bo bs (n + A.length) L rep1 Do1 Ds1) (hbV : Below w1.heap.size w1 V) => ih B y (n + A.length) rep1 Do1 Ds1 V (by omega) ap.ty hp.2.1 hrB (by omega) (by omega) hm hbV
      have HT := Lib.hid (And.intro hT htop)
      have HQ := Lib.hid hrq
      have HW := Lib.hid hwt
      have HL := Lib.hid (show L.length ≤ 60000 from by have := hA.ok.2.1; have := hA.ok.2.2; omega)
      have HN := Lib.hid hn
      clear ih hr hrA hrB hrq htop hp hs hT hN hl hn ap hS hb ba hA
      go_enter Try.func33, Try.ntmps33
      go_upto_region 7 with (first
        | (at_lookup; refine wpList_lookup_own_ok_int _ rfl _ _ 71 rfl 3 3 .i64 lawI mI_under int_under (zeroI _) bo n Do rfl hI _ _ rfl (keyOf_int_mk int_under HW.out) ?_; intro c hat hwc)
        | (go_at_call 51; ((with_reducible refine cat.mono ?_); clear cat; rintro e w2 ⟨rfl, hb2⟩)))
      have H2 := BG.out w2 hb2
      clear hat hwc BG hI hwt hh hb2
      generalize w2.heap.size = nb at *
      generalize W.heap.size = fb at *
      generalize (World.alloc w2 _ : World) = W2 at *
      go_cut [9] from 29 to 39 (fun sp wx => ∃ (sb : Nat) (a b : Int) (rep' : Rep) (Do' Ds' : DW), sp = .pointer (some ⟨sb, 0, none⟩) ∧ rep0 rep' A = some a ∧ rep0 rep' B = some b ∧ Mono rep rep' ∧ Fr w1 W wx p fb nb bo bs (n + A.length + B.length) k v x y sz hg L rep' Do' Ds' ∧ Four wx sb k v a b ∧ ¬ (sb = bo ∨ sb = bs))
      case first =>
        have H2d := H2.keep ((Below.refl _ _).drew)
        have HX := H2d.cells
        refine wp_region_held_drew (S := (fun V => (V.cell? ⟨fb, 0, none⟩ = some (.pointer (some ⟨p, 0, none⟩)) ∧ V.cell? ⟨fb, 1, none⟩ = some (.map (some bo)) ∧ V.cell? ⟨fb, 2, none⟩ = some (.map (some bs))) ∧ V.cell? ⟨nb, 0, none⟩ = some (.int .i64 k) ∧ V.cell? ⟨nb, 1, none⟩ = some (.int .i64 v) ∧ V.cell? ⟨nb, 2, none⟩ = some (.int .i64 x) ∧ V.cell? ⟨nb, 3, none⟩ = some (.int .i64 y))) (by kernel_rfl) (HX) (fun hHeld => ?_)
        refine wpAnyH_take (i := 0) (v := ?_) rfl (by kernel_rfl) (by kernel_rfl) (by kernel_rfl) (fun _ _ _ h => h) (Or.inl ⟨by rfl, ?_⟩) hHeld ?_
        rotate_left
        · (intro wS hSw; (try dsimp only at hSw); (try go_split_ands); go_simp; try with_reducible rfl)
        try simp only [List.getElem_toArray, List.getElem_cons_succ, List.getElem_cons_zero, Act.put, List.setIfInBounds_toArray, List.set_cons_zero, List.set_cons_succ]
        refine wpAnyH_take (i := 1) (v := ?_) rfl (by kernel_rfl) (by kernel_rfl) (by kernel_rfl) (fun _ _ _ h => h) (Or.inl ⟨by rfl, ?_⟩) hHeld ?_
        rotate_left
        · (intro wS hSw; (try dsimp only at hSw); (try go_split_ands); go_simp; try with_reducible rfl)
        try simp only [List.getElem_toArray, List.getElem_cons_succ, List.getElem_cons_zero, Act.put, List.setIfInBounds_toArray, List.set_cons_zero, List.set_cons_succ]
        refine wpAnyH_take (i := 2) (v := ?_) rfl (by kernel_rfl) (by kernel_rfl) (by kernel_rfl) (fun _ _ _ h => h) (Or.inl ⟨by rfl, ?_⟩) hHeld ?_
        rotate_left
        · (intro wS hSw; (try dsimp only at hSw); (try go_split_ands); go_simp; try with_reducible rfl)
        try simp only [List.getElem_toArray, List.getElem_cons_succ, List.getElem_cons_zero, Act.put, List.setIfInBounds_toArray, List.set_cons_zero, List.set_cons_succ]
        refine wpAnyH_take (i := 3) (v := ?_) rfl (by kernel_rfl) (by kernel_rfl) (by kernel_rfl) (fun _ _ _ h => h) (Or.inl ⟨by rfl, ?_⟩) hHeld ?_
        rotate_left
        · (intro wS hSw; (try dsimp only at hSw); (try go_split_ands); go_simp; try with_reducible rfl)
        try simp only [List.getElem_toArray, List.getElem_cons_succ, List.getElem_cons_zero, Act.put, List.setIfInBounds_toArray, List.set_cons_zero, List.set_cons_succ]
        refine wpAnyH_take (i := 4) (v := ?_) rfl (by kernel_rfl) (by kernel_rfl) (by kernel_rfl) (fun _ _ _ h => h) (Or.inl ⟨by rfl, ?_⟩) hHeld ?_
        rotate_left
        · (intro wS hSw; (try dsimp only at hSw); (try go_split_ands); go_simp; try with_reducible rfl)
        try simp only [List.getElem_toArray, List.getElem_cons_succ, List.getElem_cons_zero, Act.put, List.setIfInBounds_toArray, List.set_cons_zero, List.set_cons_succ]
        refine wpAnyH_take (i := 6) (v := ?_) rfl (by kernel_rfl) (by kernel_rfl) (by kernel_rfl) (fun _ _ _ h => h) (Or.inl ⟨by rfl, ?_⟩) hHeld ?_
        rotate_left
        · (intro wS hSw; (try dsimp only at hSw); (try go_split_ands); go_simp; try with_reducible rfl)
        try simp only [List.getElem_toArray, List.getElem_cons_succ, List.getElem_cons_zero, Act.put, List.setIfInBounds_toArray, List.set_cons_zero, List.set_cons_succ]
        refine wpAnyH_take (i := 7) (v := ?_) rfl (by kernel_rfl) (by kernel_rfl) (by kernel_rfl) (fun _ _ _ h => h) (Or.inl ⟨by rfl, ?_⟩) hHeld ?_
        rotate_left
        · (intro wS hSw; (try dsimp only at hSw); (try go_split_ands); go_simp; try with_reducible rfl)
        try simp only [List.getElem_toArray, List.getElem_cons_succ, List.getElem_cons_zero, Act.put, List.setIfInBounds_toArray, List.set_cons_zero, List.set_cons_succ]
        refine wpAnyH_take (i := 8) (v := ?_) rfl (by kernel_rfl) (by kernel_rfl) (by kernel_rfl) (fun _ _ _ h => h) (Or.inl ⟨by rfl, ?_⟩) hHeld ?_
        rotate_left
        · (intro wS hSw; (try dsimp only at hSw); (try go_split_ands); go_simp; try with_reducible rfl)
        try simp only [List.getElem_toArray, List.getElem_cons_succ, List.getElem_cons_zero, Act.put, List.setIfInBounds_toArray, List.set_cons_zero, List.set_cons_succ]
        refine wpAnyH_ready (rs := [5, 11]) (by kernel_rfl) (by simp) ?_
        refine AllReadyH.cons rfl (fun K hK => ?_) (AllReadyH.cons rfl (fun K hK => ?_) AllReadyH.nil)
        · skip
          go_simp
          go_at_call 33
          (with_reducible refine (cA _ H2d.m H2d.b).mono ?_)
          intro e w4 c4
          obtain ⟨a, rep1, Do1, Ds1, rfl, ra, mo1, H4, ho4⟩ := H2d.called c4
          clear c4
          have HC4 := H4.cells
          refine hK.out _ _ ?_ (fun hNext => ?_)
          · exact HC4
          clear hK K hHeld
          have hHeld := hNext
          clear hNext
          try simp only [List.getElem_toArray, List.getElem_cons_succ, List.getElem_cons_zero, Act.put, List.setIfInBounds_toArray, List.set_cons_zero, List.set_cons_succ]
          refine wpAnyH_ready (rs := [9, 11]) (by kernel_rfl) (by simp) ?_
          refine AllReadyH.cons rfl (fun K hK => ?_) (AllReadyH.cons rfl (fun K hK => ?_) AllReadyH.nil)
          · skip
            go_simp
            go_at_call 33
            (with_reducible refine (cB _ _ _ _ H4.m H4.b).mono ?_)
            intro e w5 c5
            obtain ⟨b, rep2, Do2, Ds2, rfl, rb, mo2, H5, ho5⟩ := H4.called c5
            clear c5
            have HC5 := H5.cells
            refine hK.out _ _ ?_ (fun hNext => ?_)
            · exact HC5
            clear hK K hHeld
            have hHeld := hNext
            clear hNext
            try simp only [List.getElem_toArray, List.getElem_cons_succ, List.getElem_cons_zero, Act.put, List.setIfInBounds_toArray, List.set_cons_zero, List.set_cons_succ]
            refine wpAnyH_take (i := 10) (v := ?_) rfl (by kernel_rfl) (by kernel_rfl) (by kernel_rfl) (fun _ _ _ h => h) (Or.inl ⟨by rfl, ?_⟩) hHeld ?_
            rotate_left
            · (intro wS hSw; (try dsimp only at hSw); (try go_split_ands); go_simp; try with_reducible rfl)
            try simp only [List.getElem_toArray, List.getElem_cons_succ, List.getElem_cons_zero, Act.put, List.setIfInBounds_toArray, List.set_cons_zero, List.set_cons_succ]
            refine wpAnyH_ready (rs := [11]) (by kernel_rfl) (by simp) ?_
            refine AllReadyH.cons rfl (fun K hK => ?_) AllReadyH.nil
            go_simp
            have H6 := H5.keep ((Below.refl _ _).alloc (Nat.le_refl _) (.cells #[.int .i64 0, .int .i64 0, .int .i64 0, .int .i64 0] 87))
            have HC6 := H6.cells
            refine hK.out _ _ ?_ (fun hNext => ?_)
            · exact HC6
            clear hK K hHeld
            have hHeld := hNext
            clear hNext
            try simp only [List.getElem_toArray, List.getElem_cons_succ, List.getElem_cons_zero, Act.put, List.setIfInBounds_toArray, List.set_cons_zero, List.set_cons_succ]
            refine wpAnyH_ready (rs := [12]) (by kernel_rfl) (by simp) ?_
            refine AllReadyH.cons rfl (fun K hK => ?_) AllReadyH.nil
            go_simp
            have H7 := H5.keep ((Below.refl _ _).alloc (Nat.le_refl _) (.cells #[.int .i64 k, .int .i64 v, .int .i64 a, .int .i64 b] 87))
            have HC7 := H7.cells
            refine hK.out _ _ ?_ (fun hNext => ?_)
            · exact HC7
            clear hK K hHeld
            have hHeld := hNext
            clear hNext
            try simp only [List.getElem_toArray, List.getElem_cons_succ, List.getElem_cons_zero, Act.put, List.setIfInBounds_toArray, List.set_cons_zero, List.set_cons_succ]
            refine wpAnyH_done (by kernel_rfl) ?_ _
            go_wp2_with (fail)
            go_meet
            case rel =>
            exact ⟨_, a, b, rep2, Do2, Ds2, rfl, mo2.rep0 ra, rb, mo1.trans mo2, H7, Four.new _ _ _ _ _ _, by have := H5.m.ltI; have := H5.m.ltS; omega⟩
          · skip
            go_simp
            have H4a := H4.keep ((Below.refl _ _).alloc (Nat.le_refl _) (.cells #[.int .i64 0, .int .i64 0, .int .i64 0, .int .i64 0] 87))
            have LT := Lib.hid H4.lts
            have FZ4 := FourZ.new w4 87
            have HC4a := H4a.cells
            refine hK.out _ _ ?_ (fun hNext => ?_)
            · exact HC4a
            clear hK K hHeld
            have hHeld := hNext
            clear hNext
            try simp only [List.getElem_toArray, List.getElem_cons_succ, List.getElem_cons_zero, Act.put, List.setIfInBounds_toArray, List.set_cons_zero, List.set_cons_succ]
            refine wpAnyH_ready (rs := [9]) (by kernel_rfl) (by simp) ?_
            refine AllReadyH.cons rfl (fun K hK => ?_) AllReadyH.nil
            go_simp
            go_at_call 33
            (with_reducible refine (cB _ _ _ _ H4a.m H4a.b).mono ?_)
            intro e w5 c5
            obtain ⟨b, rep2, Do2, Ds2, rfl, rb, mo2, H5, ho5⟩ := H4a.called c5
            clear c5
            have HC5 := H5.cells
            have FZ5 := FZ4.only ho5 (by have := LT.out; omega)
            clear FZ4
            refine hK.out _ _ ?_ (fun hNext => ?_)
            · exact HC5
            clear hK K hHeld
            have hHeld := hNext
            clear hNext
            try simp only [List.getElem_toArray, List.getElem_cons_succ, List.getElem_cons_zero, Act.put, List.setIfInBounds_toArray, List.set_cons_zero, List.set_cons_succ]
            refine wpAnyH_take (i := 10) (v := ?_) rfl (by kernel_rfl) (by kernel_rfl) (by kernel_rfl) (fun _ _ _ h => h) (Or.inl ⟨by rfl, ?_⟩) hHeld ?_
            rotate_left
            · (intro wS hSw; (try dsimp only at hSw); (try go_split_ands); go_simp; try with_reducible rfl)
            try simp only [List.getElem_toArray, List.getElem_cons_succ, List.getElem_cons_zero, Act.put, List.setIfInBounds_toArray, List.set_cons_zero, List.set_cons_succ]
            refine wpAnyH_ready (rs := [12]) (by kernel_rfl) (by simp) ?_
            obtain ⟨⟨z0, z1, z2, z3⟩, f0, f1, f2, f3⟩ := FZ5
            have FZ5 : FourZ w5 w4.heap.size := ⟨⟨z0, z1, z2, z3⟩, f0, f1, f2, f3⟩
            obtain ⟨Wf, hWf, F4, oF⟩ := FZ5.put k v a b
            have HWf := Lib.hid hWf
            clear hWf
            have H7 := H5.far oF LT.out
            have HC7 := H7.cells
            refine AllReadyH.cons rfl (fun K hK => ?_) AllReadyH.nil
            go_simp
            rw [← HWf.out]
            refine hK.out _ _ ?_ (fun hNext => ?_)
            · exact HC7
            clear hK K hHeld
            have hHeld := hNext
            clear hNext
            try simp only [List.getElem_toArray, List.getElem_cons_succ, List.getElem_cons_zero, Act.put, List.setIfInBounds_toArray, List.set_cons_zero, List.set_cons_succ]
            refine wpAnyH_done (by kernel_rfl) ?_ _
            go_wp2_with (fail)
            go_meet
            case rel =>
            exact ⟨_, a, b, rep2, Do2, Ds2, rfl, mo2.rep0 ra, rb, mo1.trans mo2, H7, F4, by have := LT.out; omega⟩
        · skip
          go_simp
          have H2a := (H2.keep ((Below.refl _ _).alloc (Nat.le_refl _) (.cells #[.int .i64 0, .int .i64 0, .int .i64 0, .int .i64 0] 87))).keep ((Below.refl _ _).drew)
          have LT := Lib.hid H2.lts
          have FZ2 := (FourZ.new W2 87).only (S := fun _ => False) (Only.ofBelow ((Below.refl _ _).drew)) (fun h => h)
          have HC2a := H2a.cells
          refine hK.out _ _ ?_ (fun hNext => ?_)
          · exact HC2a
          clear hK K hHeld
          have hHeld := hNext
          clear hNext
          try simp only [List.getElem_toArray, List.getElem_cons_succ, List.getElem_cons_zero, Act.put, List.setIfInBounds_toArray, List.set_cons_zero, List.set_cons_succ]
          refine wpAnyH_ready (rs := [5]) (by kernel_rfl) (by simp) ?_
          refine AllReadyH.cons rfl (fun K hK => ?_) AllReadyH.nil
          go_simp
          go_at_call 33
          (with_reducible refine (cA _ H2a.m H2a.b).mono ?_)
          intro e w4 c4
          obtain ⟨a, rep1, Do1, Ds1, rfl, ra, mo1, H4, ho4⟩ := H2a.called c4
          clear c4
          have HC4 := H4.cells
          have FZ4 := FZ2.only ho4 (by have := LT.out; omega)
          clear FZ2
          refine hK.out _ _ ?_ (fun hNext => ?_)
          · exact HC4
          clear hK K hHeld
          have hHeld := hNext
          clear hNext
          try simp only [List.getElem_toArray, List.getElem_cons_succ, List.getElem_cons_zero, Act.put, List.setIfInBounds_toArray, List.set_cons_zero, List.set_cons_succ]
          refine wpAnyH_ready (rs := [9]) (by kernel_rfl) (by simp) ?_
          refine AllReadyH.cons rfl (fun K hK => ?_) AllReadyH.nil
          go_simp
          go_at_call 33
          (with_reducible refine (cB _ _ _ _ H4.m H4.b).mono ?_)
          intro e w5 c5
          obtain ⟨b, rep2, Do2, Ds2, rfl, rb, mo2, H5, ho5⟩ := H4.called c5
          clear c5
          have HC5 := H5.cells
          have FZ5 := FZ4.only ho5 (by have := LT.out; omega)
          clear FZ4
          refine hK.out _ _ ?_ (fun hNext => ?_)
          · exact HC5
          clear hK K hHeld
          have hHeld := hNext
          clear hNext
          try simp only [List.getElem_toArray, List.getElem_cons_succ, List.getElem_cons_zero, Act.put, List.setIfInBounds_toArray, List.set_cons_zero, List.set_cons_succ]
          refine wpAnyH_take (i := 10) (v := ?_) rfl (by kernel_rfl) (by kernel_rfl) (by kernel_rfl) (fun _ _ _ h => h) (Or.inl ⟨by rfl, ?_⟩) hHeld ?_
          rotate_left
          · (intro wS hSw; (try dsimp only at hSw); (try go_split_ands); go_simp; try with_reducible rfl)
          try simp only [List.getElem_toArray, List.getElem_cons_succ, List.getElem_cons_zero, Act.put, List.setIfInBounds_toArray, List.set_cons_zero, List.set_cons_succ]
          refine wpAnyH_ready (rs := [12]) (by kernel_rfl) (by simp) ?_
          obtain ⟨⟨z0, z1, z2, z3⟩, f0, f1, f2, f3⟩ := FZ5
          have FZ5 : FourZ w5 W2.heap.size := ⟨⟨z0, z1, z2, z3⟩, f0, f1, f2, f3⟩
          obtain ⟨Wf, hWf, F4, oF⟩ := FZ5.put k v a b
          have HWf := Lib.hid hWf
          clear hWf
          have H7 := H5.far oF LT.out
          have HC7 := H7.cells
          refine AllReadyH.cons rfl (fun K hK => ?_) AllReadyH.nil
          go_simp
          rw [← HWf.out]
          refine hK.out _ _ ?_ (fun hNext => ?_)
          · exact HC7
          clear hK K hHeld
          have hHeld := hNext
          clear hNext
          try simp only [List.getElem_toArray, List.getElem_cons_succ, List.getElem_cons_zero, Act.put, List.setIfInBounds_toArray, List.set_cons_zero, List.set_cons_succ]
          refine wpAnyH_done (by kernel_rfl) ?_ _
          go_wp2_with (fail)
          go_meet
          case rel =>
          exact ⟨_, a, b, rep2, Do2, Ds2, rfl, mo2.rep0 ra, rb, mo1.trans mo2, H7, F4, by have := LT.out; omega⟩
      case rest =>
        obtain ⟨sb, a, b, rep2, Do2, Ds2, rfl, ra, rb, mo, HF, H4, hne⟩ := hcut
        obtain ⟨kl, hkl⟩ := key_say k v a b HQ.out.1 HQ.out.2 (rep_wf HF.m.v HL.out ra) (rep_wf HF.m.v HL.out rb)
        have hS2 : OwnS wc bs _ Ds2 := HF.m.s
        obtain ⟨⟨b0, b1, b2⟩, -⟩ := HF.cells
        obtain ⟨s0, s1, s2, s3⟩ := H4
        clear cA cB H2 hne
        cases hh2 : has Ds2 kl
        · obtain ⟨rep3, mo3, hr3, hv3⟩ := HF.m.v.new (World.ownsMap.isMap hS2) HT.out.1 HT.out.2 ra rb hkl hh2
          have R3 := Lib.hid (And.intro hr3 (mo.trans mo3))
          have V3 := Lib.hid hv3
          clear hr3 hv3 mo3
          go_wp2_with (first
            | (at_lookup; refine wpList_lookup_own_ok_int _ rfl _ _ 72 rfl 87 3 .i64 lawS mS_under int_under (zeroI _) bs _ Ds2 rfl hS2 _ _ rfl hkl ?_; intro c1 hat1 hwc1)
            | (at_mapUpdate; refine wpList_mapUpdate_own _ rfl _ _ _ 72 rfl 87 3 lawS mS_under _ bs _ Ds2 rfl hS2 (by unfold maxLen; have := HN.out; omega) _ _ _ rfl rfl hkl _ [] (plainElem_int int_under HW.out) ?_; intro w7 hown7 hgrow7; have o7 := Only.grownBy hgrow7; have hI2 := HF.m.i.only o7 HF.m.ne; have b1 := o7.cell b1 (by have := HF.ef; show fb ≠ bs; omega))
            | (at_mapUpdate; refine wpList_mapUpdate_own _ rfl _ _ _ 71 rfl 3 3 lawI mI_under _ bo _ Do2 rfl hI2 (by unfold maxLen; have := HN.out; omega) _ _ _ rfl rfl (keyOf_int_mk int_under HW.out) _ [] (plainElem_int int_under HW.out) ?_; intro w8 hown8 hgrow8))
          go_ret
          have o8 := Only.grownBy hgrow8
          refine ⟨t, rep3, _, _, rfl, (rep0_ne _ (by simp)).trans R3.out.1, R3.out.2, ⟨?_, ?_, V3.out.put (World.ownsMap.isMap HF.m.i) HT.out.1 R3.out.1, HF.m.ne⟩, ?_⟩
          · rw [show n + (A ++ (k, v) :: B).length = n + A.length + B.length + 1 from by rw [List.length_append, List.length_cons]; omega]; exact hown8
          · rw [show n + (A ++ (k, v) :: B).length = n + A.length + B.length + 1 from by rw [List.length_append, List.length_cons]; omega]; exact OwnS.only hown7 o8 (fun e => HF.m.ne e.symm)
          · exact (HF.o.trans o7 (fun i hi _ => .inr hi)).trans o8 (fun i hi _ => .inl hi)
        · obtain ⟨c0, -, hat0, hw0⟩ := World.ownsMap.lookup_int hS2 lawS mS_under int_under (zeroI _) hkl
          have hr2 := HF.m.v.said (q := (k, v)) ra rb hkl hh2 hat0
          have R2 := Lib.hid hr2
          have hI2 : OwnI wc bo _ Do2 := HF.m.i
          have HE := Lib.hid hat0
          clear hr2 hat0 hw0
          go_wp2_with (first
            | (at_lookup; refine wpList_lookup_own_ok_int _ rfl _ _ 72 rfl 87 3 .i64 lawS mS_under int_under (zeroI _) bs _ Ds2 rfl hS2 _ _ rfl hkl ?_; intro c1 hat1 hwc1)
            | (at_mapUpdate; refine wpList_mapUpdate_own _ rfl _ _ _ 71 rfl 3 3 lawI mI_under _ bo _ Do2 rfl hI2 (by unfold maxLen; have := HN.out; omega) _ _ _ rfl rfl (keyOf_int_mk int_under HW.out) _ [] (plainElem_int int_under hwc1) ?_; intro w8 hown8 hgrow8))
          go_ret
          obtain rfl := i64_inj (HE.out.symm.trans hat1)
          have o8 := Only.grownBy hgrow8
          refine ⟨c0, rep2, _, _, rfl, (rep0_ne _ (by simp)).trans R2.out, mo, ⟨?_, ?_, HF.m.v.put (World.ownsMap.isMap HF.m.i) HT.out.1 R2.out, HF.m.ne⟩, HF.o.trans o8 (fun i hi _ => .inl hi)⟩
          · rw [show n + (A ++ (k, v) :: B).length = n + A.length + B.length + 1 from by rw [List.length_append, List.length_cons]; omega]; exact hown8
          · rw [show n + (A ++ (k, v) :: B).length = n + A.length + B.length + 1 from by rw [List.length_append, List.length_cons]; omega]; exact (World.ownsMap.mono (OwnS.only hS2 o8 (fun e => HF.m.ne e.symm)) (by omega))
    · obtain ⟨c0, -, hat0, hw0⟩ := World.ownsMap.lookup_int hS.i lawI mI_under int_under (zeroI _) (keyOf_int_mk int_under hwt)
      have HS := Lib.hid hS
      have HR := Lib.hid (hS.v.was hT hh hat0)
      have BA := Lib.hid ba
      have HE := Lib.hid hat0
      clear hS ba hr hT hs hN hl hn ap ih hA hb hat0 hw0
      go_enter Try.func33, Try.ntmps33
      go_wp2_with (first
        | (at_lookup; refine wpList_lookup_own_ok_int _ rfl _ _ 71 rfl 3 3 .i64 lawI mI_under int_under (zeroI _) bo n Do rfl hI _ _ rfl (keyOf_int_mk int_under hwt) ?_; intro c hat hwc))
      go_ret
      obtain rfl := i64_inj (HE.out.symm.trans hat)
      exact ⟨c0, rep, Do, Ds, rfl, HR.out, Mono.refl rep, (HS.out.keep BA.out).more (by omega), (Only.ofBelow (S := fun _ => False) BA.out).mono (fun _ hf _ => hf.elim)⟩
end Go.Proofs.Ytbmlpdkbiipcmaa
