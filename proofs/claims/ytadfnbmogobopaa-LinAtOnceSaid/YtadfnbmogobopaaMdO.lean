/- (*model.Map).Do, Len, Pairs, Copy. No condition: lemmas. -/
import Derived.Test.YtadfnbmogobopaaMdN
import Derived.Test.YtadfnbmogobopaaLfG
import Derived.OwnWalk
import Derived.Deep.RegionHeld3
namespace Go.Proofs.Ytadfnbmogobopaa
open Go.RowKit Go.Sort
set_option linter.all false
set_option maxRecDepth 20000

theorem MapAt.prs {w : World} {S : Nat → Prop} {b : Nat} {L : List Pr} (h : MapAt w S b L) : ∃ ao cap, w.cell? ⟨b, 0, none⟩ = some (.slice ao L.length cap) ∧ w.frozen? ⟨b, 0, none⟩ = false ∧ Prs w ao cap L := by
  obtain ⟨ao, cap, h1, h2, h3⟩ := h.ex
  exact ⟨ao, cap, h1, h2, h3.prs rfl⟩
theorem frozen_keep {W W' : World} {b j : Nat} (h : W.frozen? ⟨b, j, none⟩ = false) (hl : b < W.heap.size) (hb : Below W.heap.size W W') : W'.frozen? ⟨b, j, none⟩ = false :=
  (World.frozen?_of_block (a := ⟨b, j, none⟩) (hb.block b hl)).trans h

theorem mpairs_any (b : Nat) (S : Nat → Prop) (L : List Pr) (w : World) (h : MapAt w S b L) (hl : L.length ≤ 1100000) :
    Calls Try.prog 46 #[.pointer (some ⟨b, 0, none⟩)] w (RowIs w L) := by
  obtain ⟨ao, cap, k0, f0, hP⟩ := h.prs
  have c := fun W hw => clone_any ao cap L W hw hl
  have HP := Lib.hid hP
  clear h hP
  go_enter Try.func46, Try.ntmps46
  go_wp2_with (go_at_call 28; ((with_reducible refine (c _ HP.out).mono ?_); clear c; rintro e w1 ⟨ao, cp, rfl, hR, hb1⟩; have HR := Lib.hid (And.intro hR hb1); clear hR hb1))
  go_ret
  exact ⟨_, _, rfl, HR.out.1, HR.out.2⟩
theorem mpairs_nil (w : World) : Calls Try.prog 46 #[.pointer none] w fun e w' => e = .returned (.slice none 0 0) ∧ w' = w := by
  go_enter Try.func46, Try.ntmps46
  go_wp2_with (fail)
  go_ret
  exact ⟨rfl, rfl⟩
theorem mcopy_any (b : Nat) (S : Nat → Prop) (L : List Pr) (w : World) (h : MapAt w S b L) (hl : L.length ≤ 1100000) :
    Calls Try.prog 33 #[.pointer (some ⟨b, 0, none⟩)] w (NewIs w L) := by
  have c := fun W hw => mpairs_any b S L W hw hl
  have HM := Lib.hid h
  clear h
  go_enter Try.func33, Try.ntmps33
  go_wp2_with (go_at_call 46; ((with_reducible refine (c _ HM.out).mono ?_); clear c; rintro e w1 ⟨ao, cp, rfl, hR, hb1⟩; have HR := Lib.hid (hR.more (.cells #[.slice ao L.length cp] 88)); have HB := Lib.hid hb1; clear hR hb1))
  go_ret
  exact ⟨w1.heap.size, rfl, HB.out.size, ⟨.inr rfl, by simp, ao, cp, by simp, by simp, HR.out⟩, HB.out.alloc HB.out.size _⟩
theorem mcopy_nil (w : World) : Calls Try.prog 33 #[.pointer none] w fun e w' => e = .returned (.pointer none) ∧ w' = w := by
  go_enter Try.func33, Try.ntmps33
  go_wp2_with (fail)
  go_ret
  exact ⟨rfl, rfl⟩

theorem AC.only {W W' : World} {T : Nat → Prop} {b : Nat} {e k v n : Int} {o : Bool} {p : Value} (h : AC W b e o k v n p) (ho : Only T W W') (hb : ¬ T b) : AC W' b e o k v n p := by
  have hl := h.lt
  have c : ∀ {j v}, W.cell? ⟨b, j, none⟩ = some v → W'.cell? ⟨b, j, none⟩ = some v := fun {j v} hc => ho.cell hc hb
  have f : ∀ {j}, W.frozen? ⟨b, j, none⟩ = false → W'.frozen? ⟨b, j, none⟩ = false := fun {j} hf => (World.frozen?_of_block (a := ⟨b, j, none⟩) (ho.block b hl hb)).trans hf
  exact ⟨c h.z0, c h.z1, c h.z2, c h.z3, c h.z4, c h.z5, f h.f0, f h.f1, f h.f2, f h.f3, f h.f4, f h.f5⟩
theorem only_one {w : World} (b j : Nat) (u : Value) : Only (fun k => k = b) w (w.setCell ⟨b, j, none⟩ u) := (Only.refl (fun k => k = b) w).setCell (p := ⟨b, j, none⟩) (.inl rfl) u
/-- A block that holds an operation. -/
structure O4 (x : Nat) (c k hi v : Int) (W : World) : Prop where
  p0 : W.cell? ⟨x, 0, none⟩ = some (.int .i64 c)
  p1 : W.cell? ⟨x, 1, none⟩ = some (.int .i64 k)
  p2 : W.cell? ⟨x, 2, none⟩ = some (.int .i64 hi)
  p3 : W.cell? ⟨x, 3, none⟩ = some (.int .i64 v)
theorem O4.keep {x : Nat} {c k hi v : Int} {W W' : World} (h : O4 x c k hi v W) (hb : Below W.heap.size W W') : O4 x c k hi v W' := ⟨cell_keep h.p0 hb, cell_keep h.p1 hb, cell_keep h.p2 hb, cell_keep h.p3 hb⟩
theorem O4.set {x : Nat} {c k hi v : Int} {W : World} {y j : Nat} (h : O4 x c k hi v W) (hne : x ≠ y) (u : Value) : O4 x c k hi v (W.setCell ⟨y, j, none⟩ u) := by
  have o : ∀ i, (⟨x, i, none⟩ : Addr) ≠ ⟨y, j, none⟩ := fun i e => hne (by simpa using congrArg Addr.block e)
  exact ⟨(World.cell?_setCell_other _ _ _ _ (fun e => o 0 e.symm)).trans h.p0, (World.cell?_setCell_other _ _ _ _ (fun e => o 1 e.symm)).trans h.p1, (World.cell?_setCell_other _ _ _ _ (fun e => o 2 e.symm)).trans h.p2, (World.cell?_setCell_other _ _ _ _ (fun e => o 3 e.symm)).trans h.p3⟩

/-- What (*model.Map).Do tells and leaves. -/
def MDoIs (w : World) (S : Nat → Prop) (b : Nat) (L : List Pr) (D : Ad) (e : Ending) (w' : World) : Prop :=
  ∃ aa ca, e = .returned (D.val aa ca) ∧ MapAt w' S b L ∧ PRow w' (fun j => j < w.heap.size) (.slice aa D.ps.length ca) D.ps ∧ Only (fun k => k = b) w w'

set_option maxRecDepth 100000 in
set_option maxHeartbeats 6400000 in
theorem mdo_any (b : Nat) (S : Nat → Prop) (L : List Pr) (c k hi v : Int) (w : World) (h : MapAt w S b L) (hS : ∀ j, S j → j < w.heap.size) (hl : L.length ≤ 1150000) :
    Calls Try.prog 34 #[.pointer (some ⟨b, 0, none⟩), .agg #[.int .i64 c, .int .i64 k, .int .i64 hi, .int .i64 v]] w (MDoIs w S b (doP L c k v) (doA L c k hi)) := by
  obtain ⟨ao, cap, k0, f0, hP⟩ := h.prs
  have hbl := h.lt
  have hsb := h.sb
  have e1 : (w.alloc (.cells #[.int .i64 c, .int .i64 k, .int .i64 hi, .int .i64 v] 25)).heap.size = w.heap.size + 1 := by simp
  have e2 : ((w.alloc (.cells #[.int .i64 c, .int .i64 k, .int .i64 hi, .int .i64 v] 25)).alloc (.cells #[.int .i64 0, .bool false, .int .i64 0, .int .i64 0, .int .i64 0, .slice none 0 0] 34)).heap.size = w.heap.size + 1 + 1 := by simp
  obtain ⟨W3, hW3⟩ : ∃ W3, W3 = ((w.alloc (.cells #[.int .i64 c, .int .i64 k, .int .i64 hi, .int .i64 v] 25)).alloc (.cells #[.int .i64 0, .bool false, .int .i64 0, .int .i64 0, .int .i64 0, .slice none 0 0] 34)).alloc (.cells #[.int .i64 0, .bool false, .int .i64 0, .int .i64 0, .int .i64 0, .slice none 0 0] 34) := ⟨_, rfl⟩
  have ba2 : Below (w.alloc (.cells #[.int .i64 c, .int .i64 k, .int .i64 hi, .int .i64 v] 25)).heap.size (w.alloc (.cells #[.int .i64 c, .int .i64 k, .int .i64 hi, .int .i64 v] 25)) W3 := by rw [hW3]; exact ((Below.refl _ _).alloc (Nat.le_refl _) _).alloc (by simp) _
  have ba3 : Below ((w.alloc (.cells #[.int .i64 c, .int .i64 k, .int .i64 hi, .int .i64 v] 25)).alloc (.cells #[.int .i64 0, .bool false, .int .i64 0, .int .i64 0, .int .i64 0, .slice none 0 0] 34)).heap.size ((w.alloc (.cells #[.int .i64 c, .int .i64 k, .int .i64 hi, .int .i64 v] 25)).alloc (.cells #[.int .i64 0, .bool false, .int .i64 0, .int .i64 0, .int .i64 0, .slice none 0 0] 34)) W3 := by rw [hW3]; exact (Below.refl _ _).alloc (Nat.le_refl _) _
  have ba : Below w.heap.size w W3 := ab0 ba3
  have A1 : AC W3 (w.heap.size + 1) 0 false 0 0 0 (.slice none 0 0) := ac_after ba3
  have A2 : AC W3 (w.heap.size + 1 + 1) 0 false 0 0 0 (.slice none 0 0) := by
    rw [hW3]
    have := AC.new ((w.alloc (.cells #[.int .i64 c, .int .i64 k, .int .i64 hi, .int .i64 v] 25)).alloc (.cells #[.int .i64 0, .bool false, .int .i64 0, .int .i64 0, .int .i64 0, .slice none 0 0] 34)) 34
    rw [e2] at this
    exact this
  obtain ⟨p0, p1, p2, p3⟩ := op_after ba3
  have k3 : W3.cell? ⟨b, 0, none⟩ = some (.slice ao L.length cap) := cell_keep k0 ba
  have f3 : W3.frozen? ⟨b, 0, none⟩ = false := frozen_keep f0 hbl ba
  have HP := Lib.hid (hP.below ba)
  have HBA := Lib.hid ba
  have HA1 := Lib.hid A1
  have HA2 := Lib.hid A2
  have HSW := Lib.hid hS
  have hz3 : Hid (W3.heap.size = w.heap.size + 3) := Lib.hid (by rw [hW3]; simp)
  have HBL := Lib.hid hbl
  have HSB := Lib.hid hsb
  have cdo := fun W hw => ldo_any ao cap L c k hi v W hw (Nat.le_trans hl (by decide))
  unfold DoIs Ad.val at cdo
  unfold MDoIs Ad.val
  generalize doA L c k hi = D at cdo ⊢
  generalize doP L c k v = R at cdo ⊢
  obtain ⟨e0, x0, x1, x2, nn, ps⟩ := D
  dsimp only at cdo ⊢
  clear h hP hl hS ba ba2 ba3 A1 A2 e1 e2 k0 f0 hbl hsb
  go_enter Try.func34, Try.ntmps34
  go_wp2_with (fail)
  rw [← hW3]
  clear hW3
  have hO : O4 w.heap.size c k hi v W3 := ⟨p0, p1, p2, p3⟩
  have hn2 : w.heap.size ≠ w.heap.size + 1 + 1 := by omega
  have hb2 : ¬ b = w.heap.size + 1 + 1 := by have := HBL.out; omega
  refine wp_region_held_drew (S := (fun W => O4 w.heap.size c k hi v W)) (by kernel_rfl) (by first | exact hO | exact ⟨p0, p1, p2, p3⟩) (fun hHeld => ?_)
  refine wpAnyH_take (i := 0) (v := ?_) rfl (by kernel_rfl) (by kernel_rfl) (by kernel_rfl) (fun _ _ _ h => h) (Or.inl ⟨by rfl, ?_⟩) hHeld ?_
  rotate_left
  · (intro wS hSw; (obtain ⟨s0, s1, s2, s3⟩ := hSw); go_simp; try with_reducible rfl)
  try simp only [List.getElem_toArray, List.getElem_cons_succ, List.getElem_cons_zero, Act.put, List.setIfInBounds_toArray, List.set_cons_zero, List.set_cons_succ]
  refine wpAnyH_take (i := 1) (v := ?_) rfl (by kernel_rfl) (by kernel_rfl) (by kernel_rfl) (fun _ _ _ h => h) (Or.inl ⟨by rfl, ?_⟩) hHeld ?_
  rotate_left
  · (intro wS hSw; (obtain ⟨s0, s1, s2, s3⟩ := hSw); go_simp; try with_reducible rfl)
  try simp only [List.getElem_toArray, List.getElem_cons_succ, List.getElem_cons_zero, Act.put, List.setIfInBounds_toArray, List.set_cons_zero, List.set_cons_succ]
  refine wpAnyH_take (i := 2) (v := ?_) rfl (by kernel_rfl) (by kernel_rfl) (by kernel_rfl) (fun _ _ _ h => h) (Or.inl ⟨by rfl, ?_⟩) hHeld ?_
  rotate_left
  · (intro wS hSw; (obtain ⟨s0, s1, s2, s3⟩ := hSw); go_simp; try with_reducible rfl)
  try simp only [List.getElem_toArray, List.getElem_cons_succ, List.getElem_cons_zero, Act.put, List.setIfInBounds_toArray, List.set_cons_zero, List.set_cons_succ]
  refine wpAnyH_take (i := 3) (v := ?_) rfl (by kernel_rfl) (by kernel_rfl) (by kernel_rfl) (fun _ _ _ h => h) (Or.inl ⟨by rfl, ?_⟩) hHeld ?_
  rotate_left
  · (intro wS hSw; (obtain ⟨s0, s1, s2, s3⟩ := hSw); go_simp; try with_reducible rfl)
  try simp only [List.getElem_toArray, List.getElem_cons_succ, List.getElem_cons_zero, Act.put, List.setIfInBounds_toArray, List.set_cons_zero, List.set_cons_succ]
  refine wpAnyH_take (i := 5) (v := ?_) rfl (by kernel_rfl) (by kernel_rfl) (by kernel_rfl) (fun _ _ _ h => h) (Or.inl ⟨by rfl, ?_⟩) hHeld ?_
  rotate_left
  · (intro wS hSw; (obtain ⟨s0, s1, s2, s3⟩ := hSw); go_simp; try with_reducible rfl)
  try simp only [List.getElem_toArray, List.getElem_cons_succ, List.getElem_cons_zero, Act.put, List.setIfInBounds_toArray, List.set_cons_zero, List.set_cons_succ]
  refine wpAnyH_ready (rs := [4]) (by kernel_rfl) (by simp) ?_
  refine AllReadyH.cons rfl (fun K hK => ?_) AllReadyH.nil
  go_simp
  refine hK.out _ _ ?_ (fun hNext => ?_)
  · exact hHeld
  clear hK K hHeld
  have hHeld := hNext
  clear hNext
  try simp only [List.getElem_toArray, List.getElem_cons_succ, List.getElem_cons_zero, Act.put, List.setIfInBounds_toArray, List.set_cons_zero, List.set_cons_succ]
  refine wpAnyH_ready (rs := [6]) (by kernel_rfl) (by simp) ?_
  refine AllReadyH.cons rfl (fun K hK => ?_) AllReadyH.nil
  go_simp
  go_at_call 50; ((with_reducible refine (cdo _ (HP.out.below ((Below.refl _ _).drew))).mono ?_); rintro e w6 ⟨a6, cp6, aa, ca, rfl, hR, hT, hb6⟩; have hb6' : Below W3.heap.size W3 w6 := ((Below.refl _ _).drew).trans hb6; have HR := Lib.hid hR; have HT := Lib.hid hT; have HB6 := Lib.hid hb6'; have k6 := cell_keep k3 hb6'; have f6 : w6.frozen? ⟨b, 0, none⟩ = false := frozen_keep f3 (World.block_lt_of_cell? _ _ k3) hb6'; have H61 := Lib.hid (HA1.out.keep hb6'); obtain ⟨z0, z1, z2, z3, z4, z5, g0, g1, g2, g3, g4, g5⟩ := HA2.out.keep hb6'; have H62 := Lib.hid (HA2.out.keep hb6'); clear hR hT hb6 hb6')
  refine hK.out _ _ ?_ (fun hNext => ?_)
  · exact hO.keep HB6.out
  clear hK K hHeld
  have hHeld := hNext
  clear hNext
  try simp only [List.getElem_toArray, List.getElem_cons_succ, List.getElem_cons_zero, Act.put, List.setIfInBounds_toArray, List.set_cons_zero, List.set_cons_succ]
  refine wpAnyH_take (i := 7) (v := ?_) rfl (by kernel_rfl) (by kernel_rfl) (by kernel_rfl) (fun _ _ _ h => h) (Or.inl ⟨by rfl, ?_⟩) hHeld ?_
  rotate_left
  · (intro wS hSw; (obtain ⟨s0, s1, s2, s3⟩ := hSw); go_simp; try with_reducible rfl)
  try simp only [List.getElem_toArray, List.getElem_cons_succ, List.getElem_cons_zero, Act.put, List.setIfInBounds_toArray, List.set_cons_zero, List.set_cons_succ]
  refine wpAnyH_take (i := 8) (v := ?_) rfl (by kernel_rfl) (by kernel_rfl) (by kernel_rfl) (fun _ _ _ h => h) (Or.inl ⟨by rfl, ?_⟩) hHeld ?_
  rotate_left
  · (intro wS hSw; (obtain ⟨s0, s1, s2, s3⟩ := hSw); go_simp; try with_reducible rfl)
  try simp only [List.getElem_toArray, List.getElem_cons_succ, List.getElem_cons_zero, Act.put, List.setIfInBounds_toArray, List.set_cons_zero, List.set_cons_succ]
  refine wpAnyH_take (i := 9) (v := ?_) rfl (by kernel_rfl) (by kernel_rfl) (by kernel_rfl) (fun _ _ _ h => h) (Or.inl ⟨by rfl, ?_⟩) hHeld ?_
  rotate_left
  · (intro wS hSw; (obtain ⟨s0, s1, s2, s3⟩ := hSw); go_simp; try with_reducible rfl)
  try simp only [List.getElem_toArray, List.getElem_cons_succ, List.getElem_cons_zero, Act.put, List.setIfInBounds_toArray, List.set_cons_zero, List.set_cons_succ]
  refine wpAnyH_take (i := 10) (v := ?_) rfl (by kernel_rfl) (by kernel_rfl) (by kernel_rfl) (fun _ _ _ h => h) (Or.inl ⟨by rfl, ?_⟩) hHeld ?_
  rotate_left
  · (intro wS hSw; (obtain ⟨s0, s1, s2, s3⟩ := hSw); go_simp; try with_reducible rfl)
  try simp only [List.getElem_toArray, List.getElem_cons_succ, List.getElem_cons_zero, Act.put, List.setIfInBounds_toArray, List.set_cons_zero, List.set_cons_succ]
  refine wpAnyH_take (i := 11) (v := ?_) rfl (by kernel_rfl) (by kernel_rfl) (by kernel_rfl) (fun _ _ _ h => h) (Or.inl ⟨by rfl, ?_⟩) hHeld ?_
  rotate_left
  · (intro wS hSw; (obtain ⟨s0, s1, s2, s3⟩ := hSw); go_simp; try with_reducible rfl)
  try simp only [List.getElem_toArray, List.getElem_cons_succ, List.getElem_cons_zero, Act.put, List.setIfInBounds_toArray, List.set_cons_zero, List.set_cons_succ]
  refine wpAnyH_ready (rs := [12]) (by kernel_rfl) (by simp) ?_
  refine AllReadyH.cons rfl (fun K hK => ?_) AllReadyH.nil
  go_simp
  refine hK.out _ _ ?_ (fun hNext => ?_)
  · exact (hO.keep HB6.out).set (Nat.ne_of_gt HBL.out) _
  clear hK K hHeld
  have hHeld := hNext
  clear hNext
  try simp only [List.getElem_toArray, List.getElem_cons_succ, List.getElem_cons_zero, Act.put, List.setIfInBounds_toArray, List.set_cons_zero, List.set_cons_succ]
  refine wpAnyH_ready (rs := [13]) (by kernel_rfl) (by simp) ?_
  refine AllReadyH.cons rfl (fun K hK => ?_) AllReadyH.nil
  go_simp
  refine hK.out _ _ ?_ (fun hNext => ?_)
  · exact (((((((hO.keep HB6.out).set (Nat.ne_of_gt HBL.out) _).set hn2 _).set hn2 _).set hn2 _).set hn2 _).set hn2 _).set hn2 _
  clear hK K hHeld
  have hHeld := hNext
  clear hNext
  try simp only [List.getElem_toArray, List.getElem_cons_succ, List.getElem_cons_zero, Act.put, List.setIfInBounds_toArray, List.set_cons_zero, List.set_cons_succ]
  refine wpAnyH_done (by kernel_rfl) ?_ _
  have a62 : AC (w6.setCell ⟨b, 0, none⟩ (.slice a6 R.length cp6)) (w.heap.size + 1 + 1) 0 false 0 0 0 (.slice none 0 0) := H62.out.only (only_one b 0 _) (fun e => hb2 e.symm)
  have o7 : Only (fun k => k = b) w6 (w6.setCell ⟨b, 0, none⟩ (.slice a6 R.length cp6)) := only_one b 0 _
  have a71 := H61.out.only o7 (show ¬ (w.heap.size + 1 = b) from fun e => by have := HBL.out; omega)
  have k7 : (w6.setCell ⟨b, 0, none⟩ (.slice a6 R.length cp6)).cell? ⟨b, 0, none⟩ = some (.slice a6 R.length cp6) := World.cell?_setCell_same _ _ _ k6
  have f7 : (w6.setCell ⟨b, 0, none⟩ (.slice a6 R.length cp6)).frozen? ⟨b, 0, none⟩ = false := by rw [World.frozen?_setCell]; exact f6
  generalize w6.setCell ⟨b, 0, none⟩ (.slice a6 R.length cp6) = W7 at *
  obtain ⟨W8, hW8, a82, b82⟩ := a62.put e0 x0 x1 x2 nn (.slice aa ps.length ca)
  have o8 := putO hW8
  rw [← hW8]
  clear hW8
  have a81 := a71.only o8 (show ¬ (w.heap.size + 1 = w.heap.size + 1 + 1) from by omega)
  have k8 := o8.cell k7 hb2
  have f8 : W8.frozen? ⟨b, 0, none⟩ = false := (World.frozen?_of_block (a := ⟨b, 0, none⟩) (o8.block b (World.block_lt_of_cell? _ _ k7) hb2)).trans f7
  have HA8 := Lib.hid a81
  have HO7 := Lib.hid o7
  have HO8 := Lib.hid o8
  have HK8 := Lib.hid (And.intro k8 f8)
  obtain ⟨y0, y1, y2, y3, y4, y5, m0, m1, m2, m3, m4, m5⟩ := a81
  obtain ⟨z0', z1', z2', z3', z4', z5', -, -, -, -, -, -⟩ := a82
  clear o7 o8 k7 f7 k8 f8 a71 a62 b82 k6 f6 z0 z1 z2 z3 z4 z5 g0 g1 g2 g3 g4 g5 p0 p1 p2 p3 k3 f3 hO hn2 hHeld
  go_wp2_with (fail)
  obtain ⟨W9, hW9, r, rb⟩ := HA8.out.put e0 x0 x1 x2 nn (.slice aa ps.length ca)
  have o9 := putO hW9
  rw [← hW9]
  obtain ⟨r0, r1, r2, r3, r4, r5, -, -, -, -, -, -⟩ := r
  refine bodyPost_ret (v := .agg #[.int .i64 e0, .bool x0, .int .i64 x1, .int .i64 x2, .int .i64 nn, .slice aa ps.length ca]) (by simp [results, Try.results34, go_sem, r0, r1, r2, r3, r4, r5]) rfl ?_
  have hz := hz3.out
  have hbl := HBL.out
  have hb1 : ¬ (b = w.heap.size + 1) := by omega
  have hd : W3.drew.heap.size = W3.heap.size := rfl
  have ho : Only (fun k => k = b) w W9 := ((((Only.ofBelow (S := fun k => k = b) HBA.out).trans (Only.ofBelow HB6.out) (T := fun k => k = b) (fun k hk _ => hk)).trans HO7.out (fun k hk _ => hk)).trans HO8.out (fun k hk hlt => by omega)).trans o9 (fun k hk hlt => by omega)
  have k9 := o9.cell HK8.out.1 hb1
  have f9 : W9.frozen? ⟨b, 0, none⟩ = false := (World.frozen?_of_block (a := ⟨b, 0, none⟩) (o9.block b (World.block_lt_of_cell? _ _ HK8.out.1) hb1)).trans HK8.out.2
  have rowk : ∀ {v : Value} {l : List Pr}, PRow w6 (fun j => j < W3.drew.heap.size) v l → PRow W9 (fun j => j < w.heap.size) v l := fun {v l} hr =>
    ⟨o9.row (HO8.out.row (HO7.out.row hr.row (fun k hk e => hr.av k hk (by rw [hd]; omega))) (fun k hk e => hr.av k hk (by rw [hd]; omega))) (fun k hk e => hr.av k hk (by rw [hd]; omega)), fun k hk hl => hr.av k hk (by rw [hd]; omega)⟩
  exact ⟨aa, ca, rfl, ⟨HSB.out, World.block_lt_of_cell? _ _ k9, a6, cp6, k9, f9, (rowk HR.out).sub (fun k _ hk => HSW.out k hk)⟩, rowk HT.out, ho⟩
end Go.Proofs.Ytadfnbmogobopaa
