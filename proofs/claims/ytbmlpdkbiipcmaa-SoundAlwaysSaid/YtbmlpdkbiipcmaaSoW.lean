/- Contract of sound.Same over treaps of sorted pairs, and of what is no treap. -/
import Derived.Test.YtbmlpdkbiipcmaaSoT
namespace Go.Proofs.Ytbmlpdkbiipcmaa
open Go.RowKit Go.Maps
set_option linter.all false

theorem box_new (w : World) (p bo bs : Nat) : (w.alloc (.cells #[.pointer (some ⟨p, 0, none⟩), .map (some bo), .map (some bs)] 74)).cell? ⟨w.heap.size, 0, none⟩ = some (.pointer (some ⟨p, 0, none⟩)) ∧ (w.alloc (.cells #[.pointer (some ⟨p, 0, none⟩), .map (some bo), .map (some bs)] 74)).cell? ⟨w.heap.size, 1, none⟩ = some (.map (some bo)) ∧ (w.alloc (.cells #[.pointer (some ⟨p, 0, none⟩), .map (some bo), .map (some bs)] 74)).cell? ⟨w.heap.size, 2, none⟩ = some (.map (some bs)) := by
  refine ⟨?_, ?_, ?_⟩ <;> simp
section
variable {w : World} {p : Nat} {F : Nat → Prop} {room st : Int} {L : List It}
theorem ssame_no1 (hA : Arena w p F room st L) (t u : Int) (h0 : t ≠ 0) (hk : kindL L t ≠ 1) :
    Calls Try.prog 11 #[.pointer (some ⟨p, 0, none⟩), .int .i64 t, .int .i64 u] w fun e w' => e = .returned (.bool false) ∧ Below w.heap.size w w' := by
  have c1 := isTreap_is hA t false (by simp [HungOk, h0, hk])
  clear hA h0 hk
  go_enter Try.func11, Try.ntmps11
  go_wp2_with (first | (go_at_call 32; ((with_reducible refine c1.mono ?_); clear c1; rintro e w2 ⟨rfl, hb⟩)))
  go_ret
  exact ⟨rfl, hb⟩
theorem ssame_no2 (hA : Arena w p F room st L) (t u : Int) (ht : t = 0 ∨ kindL L t = 1) (h0 : u ≠ 0) (hk : kindL L u ≠ 1) :
    Calls Try.prog 11 #[.pointer (some ⟨p, 0, none⟩), .int .i64 t, .int .i64 u] w fun e w' => e = .returned (.bool false) ∧ Below w.heap.size w w' := by
  have c1 := isTreap_is hA t true (by simp [HungOk, ht])
  have c2 := fun V (hb : Below w.heap.size w V) => isTreap_is (hA.below hb) u false (by simp [HungOk, h0, hk])
  clear hA h0 hk ht
  go_enter Try.func11, Try.ntmps11
  go_wp2_with (first
    | (go_at_call 32; ((with_reducible refine c1.mono ?_); clear c1; rintro e w2 ⟨rfl, hb⟩))
    | (go_at_call 32; ((with_reducible refine (c2 _ hb).mono ?_); clear c2; rintro e w3 ⟨rfl, hb3⟩)))
  go_ret
  exact ⟨rfl, hb.trans (hb3.mono hb.size)⟩

theorem tree_treap {t : Int} {l : List Pr} (h : Tree L t l) : t = 0 ∨ kindL L t = 1 := by
  rcases h.says with ⟨h, _⟩ | ⟨_, _, _, _, _, _, _, h, _⟩
  · exact .inl h
  · exact .inr h

set_option maxRecDepth 100000 in
set_option maxHeartbeats 6400000 in
theorem ssame_any (hA : Arena w p F room st L) (t u : Int) (l m : List Pr) (tl : Tree L t l) (tm : Tree L u m) (sl : Srt l) (sm : Srt m) (rl : Rng l) (rm : Rng m) (hl : l.length ≤ 1000) (hm : m.length ≤ 1000) (B : Bool) (hB : decide (l = m) = B) :
    Calls Try.prog 11 #[.pointer (some ⟨p, 0, none⟩), .int .i64 t, .int .i64 u] w fun e w' => e = .returned (.bool B) ∧ Below w.heap.size w w' := by
  have c1 := isTreap_is hA t true (by simp [HungOk, tree_treap tl])
  have c2 := fun V (hb : Below w.heap.size w V) => isTreap_is (hA.below hb) u true (by simp [HungOk, tree_treap tm])
  have cF := fun bo bs (l1 : w.heap.size ≤ bo) (l2 : w.heap.size ≤ bs) => first_any hA l1 l2
  have HA := Lib.hid (And.intro tl tm)
  have HS := Lib.hid (And.intro sl sm)
  have HR := Lib.hid (And.intro rl rm)
  have HL := Lib.hid (And.intro hl hm)
  have HB := Lib.hid hB
  clear hA tl tm sl sm rl rm hl hm hB
  have hmm := @run_makeMap Try.prog
  go_enter Try.func11, Try.ntmps11
  go_upto_region 4 with (first
    | (go_at_call 32; ((with_reducible refine c1.mono ?_); clear c1; rintro e w2 ⟨rfl, hb⟩))
    | (go_at_call 32; ((with_reducible refine (c2 _ hb).mono ?_); clear c2; rintro e w3 ⟨rfl, hb3⟩)))
  have hb3' := hb.trans (hb3.mono hb.size)
  have m1 : OwnI (w3.alloc (.map #[] 0)) w3.heap.size 0 (.map []) := World.ownsMap_made w3 _ _ _
  have m2 : OwnS ((w3.alloc (.map #[] 0)).alloc (.map #[] 0)) (w3.heap.size + 1) 0 (.map []) := by
    have := World.ownsMap_made (H := Unit) (w3.alloc (.map #[] 0)) Try.prog 87 (plainElem Try.prog 3)
    rw [World.size_alloc] at this
    exact this
  have m1' := World.ownsMap.alloc m1 (.map #[] 0)
  have M0 : Sm ((w3.alloc (.map #[] 0)).alloc (.map #[] 0)) w3.heap.size (w3.heap.size + 1) 0 L (fun _ => none) (.map []) (.map []) := ⟨m1', m2, Inv.start L, by omega⟩
  have M1 := M0.keep ((Below.refl _ _).alloc (Nat.le_refl _) (.cells #[.pointer (some ⟨p, 0, none⟩), .map (some w3.heap.size), .map (some (w3.heap.size + 1))] 74))
  have B0 : Below w3.heap.size w3 (((w3.alloc (.map #[] 0)).alloc (.map #[] 0)).alloc (.cells #[.pointer (some ⟨p, 0, none⟩), .map (some w3.heap.size), .map (some (w3.heap.size + 1))] 74)) :=
    ((((Below.refl _ _).alloc (Nat.le_refl _) _).alloc (by simp) _).alloc (by simp <;> omega) _)
  have B1 := hb3'.trans (B0.mono hb3'.size)
  have x0 : (((w3.alloc (.map #[] 0)).alloc (.map #[] 0)).alloc (.cells #[.pointer (some ⟨p, 0, none⟩), .map (some w3.heap.size), .map (some (w3.heap.size + 1))] 74)).cell? ⟨w3.heap.size + 1 + 1, 0, none⟩ = some (.pointer (some ⟨p, 0, none⟩)) := by
    have := box_new ((w3.alloc (.map #[] 0)).alloc (.map #[] 0)) p w3.heap.size (w3.heap.size + 1)
    rw [World.size_alloc, World.size_alloc] at this
    exact this.1
  have x1 : (((w3.alloc (.map #[] 0)).alloc (.map #[] 0)).alloc (.cells #[.pointer (some ⟨p, 0, none⟩), .map (some w3.heap.size), .map (some (w3.heap.size + 1))] 74)).cell? ⟨w3.heap.size + 1 + 1, 1, none⟩ = some (.map (some w3.heap.size)) := by
    have := box_new ((w3.alloc (.map #[] 0)).alloc (.map #[] 0)) p w3.heap.size (w3.heap.size + 1)
    rw [World.size_alloc, World.size_alloc] at this
    exact this.2.1
  have x2 : (((w3.alloc (.map #[] 0)).alloc (.map #[] 0)).alloc (.cells #[.pointer (some ⟨p, 0, none⟩), .map (some w3.heap.size), .map (some (w3.heap.size + 1))] 74)).cell? ⟨w3.heap.size + 1 + 1, 2, none⟩ = some (.map (some (w3.heap.size + 1))) := by
    have := box_new ((w3.alloc (.map #[] 0)).alloc (.map #[] 0)) p w3.heap.size (w3.heap.size + 1)
    rw [World.size_alloc, World.size_alloc] at this
    exact this.2.2
  have cG := cF _ _ (show w.heap.size ≤ w3.heap.size from hb3'.size) (show w.heap.size ≤ w3.heap.size + 1 from Nat.le_trans hb3'.size (Nat.le_succ _))
  have HLE := Lib.hid hb3'.size
  have NE := Lib.hid (show ¬ (w3.heap.size + 1 + 1 = w3.heap.size ∨ w3.heap.size + 1 + 1 = w3.heap.size + 1) ∧ w.heap.size ≤ w3.heap.size + 1 from ⟨by omega, by have := hb3'.size; omega⟩)
  clear m1 m2 m1' M0 B0 cF hb hb3 hb3' hmm
  generalize (World.alloc _ (Obj.cells _ _) : World) = V at *
  generalize w3.heap.size + 1 + 1 = fb at *
  generalize w3.heap.size + 1 = bs at *
  generalize w3.heap.size = bo at *
  have M2 := M1.keep ((Below.refl _ _).drew)
  have B2 := B1.trans ((Below.refl V.heap.size V).drew.mono B1.size)
  have HX : V.drew.cell? ⟨fb, 0, none⟩ = some (.pointer (some ⟨p, 0, none⟩)) ∧ V.drew.cell? ⟨fb, 1, none⟩ = some (.map (some bo)) ∧ V.drew.cell? ⟨fb, 2, none⟩ = some (.map (some bs)) := ⟨x0, x1, x2⟩
  refine wp_region_held_drew (S := (fun V => V.cell? ⟨fb, 0, none⟩ = some (.pointer (some ⟨p, 0, none⟩)) ∧ V.cell? ⟨fb, 1, none⟩ = some (.map (some bo)) ∧ V.cell? ⟨fb, 2, none⟩ = some (.map (some bs)))) (by kernel_rfl) (HX) (fun hHeld => ?_)
  refine wpAnyH_take (i := 0) (v := ?_) rfl (by kernel_rfl) (by kernel_rfl) (by kernel_rfl) (fun _ _ _ h => h) (Or.inl ⟨by rfl, ?_⟩) hHeld ?_
  rotate_left
  · (intro wS hSw; (try dsimp only at hSw); (try go_split_ands); go_simp; try with_reducible rfl)
  try simp only [List.getElem_toArray, List.getElem_cons_succ, List.getElem_cons_zero, Act.put, List.setIfInBounds_toArray, List.set_cons_zero, List.set_cons_succ]
  refine wpAnyH_take (i := 1) (v := ?_) rfl (by kernel_rfl) (by kernel_rfl) (by kernel_rfl) (fun _ _ _ h => h) (Or.inl ⟨by rfl, ?_⟩) hHeld ?_
  rotate_left
  · (intro wS hSw; (try dsimp only at hSw); (try go_split_ands); go_simp; try with_reducible rfl)
  try simp only [List.getElem_toArray, List.getElem_cons_succ, List.getElem_cons_zero, Act.put, List.setIfInBounds_toArray, List.set_cons_zero, List.set_cons_succ]
  refine wpAnyH_take (i := 3) (v := ?_) rfl (by kernel_rfl) (by kernel_rfl) (by kernel_rfl) (fun _ _ _ h => h) (Or.inl ⟨by rfl, ?_⟩) hHeld ?_
  rotate_left
  · (intro wS hSw; (try dsimp only at hSw); (try go_split_ands); go_simp; try with_reducible rfl)
  try simp only [List.getElem_toArray, List.getElem_cons_succ, List.getElem_cons_zero, Act.put, List.setIfInBounds_toArray, List.set_cons_zero, List.set_cons_succ]
  refine wpAnyH_take (i := 4) (v := ?_) rfl (by kernel_rfl) (by kernel_rfl) (by kernel_rfl) (fun _ _ _ h => h) (Or.inl ⟨by rfl, ?_⟩) hHeld ?_
  rotate_left
  · (intro wS hSw; (try dsimp only at hSw); (try go_split_ands); go_simp; try with_reducible rfl)
  try simp only [List.getElem_toArray, List.getElem_cons_succ, List.getElem_cons_zero, Act.put, List.setIfInBounds_toArray, List.set_cons_zero, List.set_cons_succ]
  refine wpAnyH_ready (rs := [2]) (by kernel_rfl) (by simp) ?_
  refine AllReadyH.cons rfl (fun K hK => ?_) AllReadyH.nil
  go_simp
  go_at_call 33
  (with_reducible refine (cG l.length l t 0 _ _ _ _ (Nat.le_refl _) HA.out.1 HS.out.1 HR.out.1 HL.out.1 (by have := HL.out; omega) M2 B2).mono ?_)
  intro e w4 c4
  obtain ⟨r1, rep1, Do1, Ds1, rfl, ra, mo1, M4, ho4⟩ := c4
  have B4 := B2.trans (ho4.below (B := w.heap.size) (fun i hi => by have := HLE.out; have := NE.out.2; omega) B2.size)
  have HX4 : w4.cell? ⟨fb, 0, none⟩ = some (.pointer (some ⟨p, 0, none⟩)) ∧ w4.cell? ⟨fb, 1, none⟩ = some (.map (some bo)) ∧ w4.cell? ⟨fb, 2, none⟩ = some (.map (some bs)) := ⟨ho4.cell HX.1 NE.out.1, ho4.cell HX.2.1 NE.out.1, ho4.cell HX.2.2 NE.out.1⟩
  refine hK.out _ _ ?_ (fun hNext => ?_)
  · exact HX4
  clear hK K hHeld
  have hHeld := hNext
  clear hNext
  try simp only [List.getElem_toArray, List.getElem_cons_succ, List.getElem_cons_zero, Act.put, List.setIfInBounds_toArray, List.set_cons_zero, List.set_cons_succ]
  refine wpAnyH_ready (rs := [5]) (by kernel_rfl) (by simp) ?_
  refine AllReadyH.cons rfl (fun K hK => ?_) AllReadyH.nil
  go_simp
  go_at_call 33
  (with_reducible refine (cG m.length m u _ _ _ _ _ (Nat.le_refl _) HA.out.2 HS.out.2 HR.out.2 HL.out.2 (by have := HL.out; omega) M4 B4).mono ?_)
  intro e w5 c5
  obtain ⟨r2, rep2, Do2, Ds2, rfl, rb, mo2, M5, ho5⟩ := c5
  have B5 := B4.trans (ho5.below (B := w.heap.size) (fun i hi => by have := HLE.out; have := NE.out.2; omega) B4.size)
  have HX5 : w5.cell? ⟨fb, 0, none⟩ = some (.pointer (some ⟨p, 0, none⟩)) ∧ w5.cell? ⟨fb, 1, none⟩ = some (.map (some bo)) ∧ w5.cell? ⟨fb, 2, none⟩ = some (.map (some bs)) := ⟨ho5.cell HX4.1 NE.out.1, ho5.cell HX4.2.1 NE.out.1, ho5.cell HX4.2.2 NE.out.1⟩
  have HBB : (r1 == r2) = B := by
    rw [← HB.out]
    have ra2 := mo2.rep0 ra
    by_cases e : l = m
    · subst e
      rw [ra2] at rb
      cases rb
      simp
    · rw [decide_eq_false e, beq_eq_false_iff_ne]
      intro e2
      subst e2
      exact e (M5.v.inj0 ra2 rb)
  refine hK.out _ _ ?_ (fun hNext => ?_)
  · exact HX5
  clear hK K hHeld
  have hHeld := hNext
  clear hNext
  try simp only [List.getElem_toArray, List.getElem_cons_succ, List.getElem_cons_zero, Act.put, List.setIfInBounds_toArray, List.set_cons_zero, List.set_cons_succ]
  refine wpAnyH_take (i := 6) (v := ?_) rfl (by kernel_rfl) (by kernel_rfl) (by kernel_rfl) (fun _ _ _ h => h) (Or.inl ⟨by rfl, ?_⟩) hHeld ?_
  rotate_left
  · (intro wS hSw; (try dsimp only at hSw); (try go_split_ands); go_simp; try with_reducible rfl)
  try simp only [List.getElem_toArray, List.getElem_cons_succ, List.getElem_cons_zero, Act.put, List.setIfInBounds_toArray, List.set_cons_zero, List.set_cons_succ]
  refine wpAnyH_take (i := 7) (v := ?_) rfl (by kernel_rfl) (by kernel_rfl) (by kernel_rfl) (fun _ _ _ h => h) (Or.inl ⟨by rfl, ?_⟩) hHeld ?_
  rotate_left
  · (intro wS hSw; (try dsimp only at hSw); (try go_split_ands); go_simp; try with_reducible rfl)
  try simp only [List.getElem_toArray, List.getElem_cons_succ, List.getElem_cons_zero, Act.put, List.setIfInBounds_toArray, List.set_cons_zero, List.set_cons_succ]
  refine wpAnyH_done (by kernel_rfl) ?_ _
  go_wp2_with (fail)
  go_ret
  exact ⟨by first | rfl | rw [HBB] | simp [HBB], B5⟩
end
end Go.Proofs.Ytbmlpdkbiipcmaa
