/- osierref1.Do over any pairs. No condition: lemmas. -/
import Derived.Test.YtadfnbmogobopaaLfG
namespace Go.Proofs.Ytadfnbmogobopaa
open Go.RowKit
set_option linter.all false

theorem ix_had (l : List Pr) (k : Int) : (∃ (n : Nat) (v : Int), l[n]? = some (k, v) ∧ ixL l k = n ∧ hadL l k = (true, k, v)) ∨ (ixL l k = -1 ∧ hadL l k = (false, 0, 0)) := by
  cases hf : l.find? (fun z => z.1 == k) with
  | none =>
    refine .inr ⟨ixL_none (fun x hx => ?_), by unfold hadL; rw [hf]⟩
    have := List.find?_eq_none.1 hf x hx
    simpa using this
  | some q =>
    obtain ⟨h1, xs, ys, e, h2⟩ := List.find?_eq_some_iff_append.1 hf
    obtain ⟨q0, q1⟩ := q
    obtain rfl : q0 = k := by simpa using h1
    have hq : l[xs.length]? = some (q0, q1) := by rw [e]; simp
    refine .inl ⟨xs.length, q1, hq, ixL_at hq (fun x hx => ?_), by unfold hadL; rw [hf]⟩
    rw [e, List.take_left' rfl] at hx
    have := h2 x hx
    simpa using this

/-- On the way of osierref1.Do: the copy is made. -/
structure RW (w W : World) (c k hi v : Int) (l : List Pr) (ao : Option Addr) (cp : Nat) : Prop where
  b : Below w.heap.size w W
  p0 : W.cell? ⟨w.heap.size, 0, none⟩ = some (.int .i64 c)
  p1 : W.cell? ⟨w.heap.size, 1, none⟩ = some (.int .i64 k)
  p2 : W.cell? ⟨w.heap.size, 2, none⟩ = some (.int .i64 hi)
  p3 : W.cell? ⟨w.heap.size, 3, none⟩ = some (.int .i64 v)
  r : AC W (w.heap.size + 1) 0 false 0 0 0 (.slice none 0 0)
  row : PRow W (fun j => j < w.heap.size + 2) (.slice ao l.length cp) l
theorem RW.keep {w W W' : World} {c k hi v : Int} {l : List Pr} {ao : Option Addr} {cp : Nat} (h : RW w W c k hi v l ao cp) (hb : Below W.heap.size W W') : RW w W' c k hi v l ao cp :=
  ⟨h.b.trans (hb.mono h.b.size), cell_keep h.p0 hb, cell_keep h.p1 hb, cell_keep h.p2 hb, cell_keep h.p3 hb, h.r.keep hb, h.row.below hb⟩
theorem RW.only {w W W' : World} {c k hi v : Int} {l : List Pr} {ao : Option Addr} {cp g : Nat} (h : RW w W c k hi v l ao cp) (o : Only (fun j => j = g) W W') (hg : w.heap.size + 2 ≤ g) (hr : (Value.slice ao l.length cp).ownBlock ≠ some g) : RW w W' c k hi v l ao cp := by
  have cc : ∀ {j u}, j < w.heap.size + 2 → ∀ {x}, W.cell? ⟨j, x, none⟩ = some u → W'.cell? ⟨j, x, none⟩ = some u := fun hj _ hc => o.cell hc (by dsimp only; omega)
  have fr : ∀ {x}, W.frozen? ⟨w.heap.size + 1, x, none⟩ = false → W'.frozen? ⟨w.heap.size + 1, x, none⟩ = false := fun {x} hf => (World.frozen?_of_block (a := ⟨w.heap.size + 1, x, none⟩) (o.block (w.heap.size + 1) h.r.lt (fun e => by have e2 : w.heap.size + 1 = g := e; omega))).trans hf
  obtain ⟨z0, z1, z2, z3, z4, z5, f0, f1, f2, f3, f4, f5⟩ := h.r
  exact ⟨h.b.trans (o.below (fun i hi => by omega) h.b.size), cc (by omega) h.p0, cc (by omega) h.p1, cc (by omega) h.p2, cc (by omega) h.p3,
    ⟨cc (by omega) z0, cc (by omega) z1, cc (by omega) z2, cc (by omega) z3, cc (by omega) z4, cc (by omega) z5, fr f0, fr f1, fr f2, fr f3, fr f4, fr f5⟩,
    ⟨o.row h.row.row (fun j hj e => hr (by rw [hj, e])), h.row.av⟩⟩
theorem RW.start {w W : World} {c k hi v : Int} {l : List Pr} {ao : Option Addr} {cp : Nat}
    (hR : PRow W (fun j => j < w.heap.size + 2) (.slice ao l.length cp) l)
    (hO : Only (fun j => ¬ j < w.heap.size + 2) ((w.alloc (.cells #[.int .i64 c, .int .i64 k, .int .i64 hi, .int .i64 v] 25)).alloc (.cells #[.int .i64 0, .bool false, .int .i64 0, .int .i64 0, .int .i64 0, .slice none 0 0] 34)) W) : RW w W c k hi v l ao cp := by
  have e : ((w.alloc (.cells #[.int .i64 c, .int .i64 k, .int .i64 hi, .int .i64 v] 25)).alloc (.cells #[.int .i64 0, .bool false, .int .i64 0, .int .i64 0, .int .i64 0, .slice none 0 0] 34)).heap.size = w.heap.size + 2 := by simp
  have hb : Below ((w.alloc (.cells #[.int .i64 c, .int .i64 k, .int .i64 hi, .int .i64 v] 25)).alloc (.cells #[.int .i64 0, .bool false, .int .i64 0, .int .i64 0, .int .i64 0, .slice none 0 0] 34)).heap.size ((w.alloc (.cells #[.int .i64 c, .int .i64 k, .int .i64 hi, .int .i64 v] 25)).alloc (.cells #[.int .i64 0, .bool false, .int .i64 0, .int .i64 0, .int .i64 0, .slice none 0 0] 34)) W :=
    hO.below (fun i hi => by omega) (Nat.le_refl _)
  obtain ⟨p0, p1, p2, p3⟩ := op_after hb
  exact ⟨ab0 hb, p0, p1, p2, p3, ac_after hb, hR⟩
theorem RW.past5 {w W W' : World} {c k hi v : Int} {l : List Pr} {ao : Option Addr} {cp : Nat} {o : Obj} (h : RW w W c k hi v l ao cp) (hb : Below (W.alloc o).heap.size (W.alloc o) W') : RW w W' c k hi v l ao cp :=
  (h.keep ((Below.refl _ _).alloc (Nat.le_refl _) o)).keep hb
section
variable {W : World} {b : Nat} {e k v n : Int} {o : Bool} {p : Value}
theorem onlyO {W W2 : World} {b : Nat} (k : Nat) (u : Value) (h : Only (fun j => j = b) W W2) : Only (fun j => j = b) W (W2.setCell ⟨b, k, none⟩ u) := h.setCell (.inl rfl) u
theorem AC.found (h : AC W b e o k v n p) (k' v' : Int) : AC (((W.setCell ⟨b, 2, none⟩ (.int .i64 k')).setCell ⟨b, 3, none⟩ (.int .i64 v')).setCell ⟨b, 1, none⟩ (.bool true)) b e true k' v' n p ∧ Only (fun j => j = b) W (((W.setCell ⟨b, 2, none⟩ (.int .i64 k')).setCell ⟨b, 3, none⟩ (.int .i64 v')).setCell ⟨b, 1, none⟩ (.bool true)) := by
  refine ⟨⟨keepc (keepc (keepc h.z0 (by decide)) (by decide)) (by decide), World.cell?_setCell_same _ _ _ (keepc (keepc h.z1 (by decide)) (by decide)), keepc (keepc (World.cell?_setCell_same _ _ _ h.z2) (by decide)) (by decide), keepc (World.cell?_setCell_same _ _ _ (keepc h.z3 (by decide))) (by decide), keepc (keepc (keepc h.z4 (by decide)) (by decide)) (by decide), keepc (keepc (keepc h.z5 (by decide)) (by decide)) (by decide), ?_, ?_, ?_, ?_, ?_, ?_⟩, onlyO _ _ (onlyO _ _ (onlyO _ _ (Only.refl _ _)))⟩
  · simpa only [World.frozen?_setCell] using h.f0
  · simpa only [World.frozen?_setCell] using h.f1
  · simpa only [World.frozen?_setCell] using h.f2
  · simpa only [World.frozen?_setCell] using h.f3
  · simpa only [World.frozen?_setCell] using h.f4
  · simpa only [World.frozen?_setCell] using h.f5
theorem AC.rng (h : AC W b e o k v n p) (p' : Value) (n' : Int) : AC ((W.setCell ⟨b, 5, none⟩ p').setCell ⟨b, 4, none⟩ (.int .i64 n')) b e o k v n' p' ∧ Only (fun j => j = b) W ((W.setCell ⟨b, 5, none⟩ p').setCell ⟨b, 4, none⟩ (.int .i64 n')) := by
  refine ⟨⟨keepc (keepc h.z0 (by decide)) (by decide), keepc (keepc h.z1 (by decide)) (by decide), keepc (keepc h.z2 (by decide)) (by decide), keepc (keepc h.z3 (by decide)) (by decide), World.cell?_setCell_same _ _ _ (keepc h.z4 (by decide)), keepc (World.cell?_setCell_same _ _ _ h.z5) (by decide), ?_, ?_, ?_, ?_, ?_, ?_⟩, onlyO _ _ (onlyO _ _ (Only.refl _ _))⟩
  · simpa only [World.frozen?_setCell] using h.f0
  · simpa only [World.frozen?_setCell] using h.f1
  · simpa only [World.frozen?_setCell] using h.f2
  · simpa only [World.frozen?_setCell] using h.f3
  · simpa only [World.frozen?_setCell] using h.f4
  · simpa only [World.frozen?_setCell] using h.f5
theorem AC.cnt (h : AC W b e o k v n p) (n' : Int) : AC (W.setCell ⟨b, 4, none⟩ (.int .i64 n')) b e o k v n' p ∧ Only (fun j => j = b) W (W.setCell ⟨b, 4, none⟩ (.int .i64 n')) := by
  refine ⟨⟨keepc h.z0 (by decide), keepc h.z1 (by decide), keepc h.z2 (by decide), keepc h.z3 (by decide), World.cell?_setCell_same _ _ _ h.z4, keepc h.z5 (by decide), ?_, ?_, ?_, ?_, ?_, ?_⟩, onlyO _ _ (Only.refl _ _)⟩
  · simpa only [World.frozen?_setCell] using h.f0
  · simpa only [World.frozen?_setCell] using h.f1
  · simpa only [World.frozen?_setCell] using h.f2
  · simpa only [World.frozen?_setCell] using h.f3
  · simpa only [World.frozen?_setCell] using h.f4
  · simpa only [World.frozen?_setCell] using h.f5
end
/-- The same contract as leaf.Do's. -/
theorem rz2 {w : World} {o1 o2 : Obj} : ∀ k, k < w.heap.size + 2 → k < ((w.alloc o1).alloc o2).heap.size := by intro k hk; simpa using hk

set_option maxHeartbeats 6400000 in
theorem rdo_bad1 (a : Option Addr) (cap : Nat) (l : List Pr) (c : Int) (k hi v : Int) (w : World) (h : Prs w a cap l) (hl : l.length ≤ 1200000) (hs : ¬ Srt l) :
    Calls Try.prog 14 #[.slice a l.length cap, .agg #[.int .i64 c, .int .i64 k, .int .i64 hi, .int .i64 v]] w (DoIs w l ⟨1, false, 0, 0, 0, []⟩) := by
  have ba : Below w.heap.size w ((w.alloc (.cells #[.int .i64 c, .int .i64 k, .int .i64 hi, .int .i64 v] 25)).alloc (.cells #[.int .i64 0, .bool false, .int .i64 0, .int .i64 0, .int .i64 0, .slice none 0 0] 34)) := ((Below.refl _ _).alloc (Nat.le_refl _) _).alloc (by simp) _
  have HA := Lib.hid (h.below ba)
  have HH := Lib.hid h
  have hcc := h.1
  have hcm := h.2.1
  unfold maxLen at hcm
  have c1 := fun W h => rmay_any a cap l W h false (decide_eq_false hs)
  clear h hs
  go_enter Try.func14, Try.ntmps14
  go_wp2_with (first
    | (at_builtin; refine wpList_app rfl (.const (.slice none 0 0)) (.tmp 9) rfl (fun j => j < w.heap.size + 2) _ [] l rfl (PRow.nil _ _) rz2 _ rfl (src_any HA.out) (by simp; omega) l.length (by simp) l rfl ?_; intro ao cp w1 hm1 hc1 hR1 hO1; have H1 : Hid (RW w w1 _ k hi v l ao cp) := Lib.hid (RW.start hR1 hO1); clear hR1 hO1; unfold maxLen at hm1)
    | (go_at_call 12; ((with_reducible refine (c1 _ (HH.out.below H1.out.b)).mono ?_); clear c1; rintro e w2 ⟨rfl, hb2⟩; have H2 := Lib.hid (H1.out.keep hb2); have p0 := H2.out.p0; have p1 := H2.out.p1; have p2 := H2.out.p2; have p3 := H2.out.p3; clear hb2; obtain ⟨z0, z1, z2, z3, z4, z5, f0, f1, f2, f3, f4, f5⟩ := H2.out.r)))
  obtain ⟨Wf, hWf, r, rb⟩ := H2.out.r.put 1 false 0 0 0 (.slice none 0 0)
  rw [← hWf]
  obtain ⟨r0, r1, r2, r3, r4, r5, -, -, -, -, -, -⟩ := r
  refine bodyPost_ret (v := .tuple #[.slice ao l.length cp, .agg #[.int .i64 1, .bool false, .int .i64 0, .int .i64 0, .int .i64 0, .slice none 0 0]]) (by simp [results, Try.results14, go_sem, r0, r1, r2, r3, r4, r5]) rfl ?_
  exact ⟨ao, cp, none, 0, rfl, H2.out.row.put (putO hWf) (Nat.le_succ _) (fun k hk => by omega), PRow.nil _ _, H2.out.b.trans (rb.mono (by omega))⟩

set_option maxHeartbeats 6400000 in
theorem rdo_bad2 (a : Option Addr) (cap : Nat) (l : List Pr) (c : Int) (k hi v : Int) (w : World) (h : Prs w a cap l) (hl : l.length ≤ 1200000) (hs : Srt l) (ho : ¬ okOp c) :
    Calls Try.prog 14 #[.slice a l.length cap, .agg #[.int .i64 c, .int .i64 k, .int .i64 hi, .int .i64 v]] w (DoIs w l ⟨1, false, 0, 0, 0, []⟩) := by
  have ba : Below w.heap.size w ((w.alloc (.cells #[.int .i64 c, .int .i64 k, .int .i64 hi, .int .i64 v] 25)).alloc (.cells #[.int .i64 0, .bool false, .int .i64 0, .int .i64 0, .int .i64 0, .slice none 0 0] 34)) := ((Below.refl _ _).alloc (Nat.le_refl _) _).alloc (by simp) _
  have HA := Lib.hid (h.below ba)
  have HH := Lib.hid h
  have hcc := h.1
  have hcm := h.2.1
  unfold maxLen at hcm
  have c1 := fun W h => rmay_any a cap l W h true (decide_eq_true hs)
  have c2 := fun W => rmayop_any c k hi v W false (decide_eq_false ho)
  clear h hs ho
  go_enter Try.func14, Try.ntmps14
  go_wp2_with (first
    | (at_builtin; refine wpList_app rfl (.const (.slice none 0 0)) (.tmp 9) rfl (fun j => j < w.heap.size + 2) _ [] l rfl (PRow.nil _ _) rz2 _ rfl (src_any HA.out) (by simp; omega) l.length (by simp) l rfl ?_; intro ao cp w1 hm1 hc1 hR1 hO1; have H1 : Hid (RW w w1 _ k hi v l ao cp) := Lib.hid (RW.start hR1 hO1); clear hR1 hO1; unfold maxLen at hm1)
    | (go_at_call 12; ((with_reducible refine (c1 _ (HH.out.below H1.out.b)).mono ?_); clear c1; rintro e w2 ⟨rfl, hb2⟩; have H2 := Lib.hid (H1.out.keep hb2); have p0 := H2.out.p0; have p1 := H2.out.p1; have p2 := H2.out.p2; have p3 := H2.out.p3; clear hb2))
    | (go_at_call 11; ((with_reducible refine (c2 _).mono ?_); clear c2; rintro e w3 ⟨rfl, hb3⟩; have H3 := Lib.hid (H2.out.keep hb3); obtain ⟨z0, z1, z2, z3, z4, z5, f0, f1, f2, f3, f4, f5⟩ := H3.out.r; clear p0 p1 p2 p3 hb3)))
  obtain ⟨Wf, hWf, r, rb⟩ := H3.out.r.put 1 false 0 0 0 (.slice none 0 0)
  rw [← hWf]
  obtain ⟨r0, r1, r2, r3, r4, r5, -, -, -, -, -, -⟩ := r
  refine bodyPost_ret (v := .tuple #[.slice ao l.length cp, .agg #[.int .i64 1, .bool false, .int .i64 0, .int .i64 0, .int .i64 0, .slice none 0 0]]) (by simp [results, Try.results14, go_sem, r0, r1, r2, r3, r4, r5]) rfl ?_
  exact ⟨ao, cp, none, 0, rfl, H3.out.row.put (putO hWf) (Nat.le_succ _) (fun k hk => by omega), PRow.nil _ _, H3.out.b.trans (rb.mono (by omega))⟩

set_option maxHeartbeats 6400000 in
theorem rdo_4y (a : Option Addr) (cap : Nat) (l : List Pr) (k hi v : Int) (w : World) (h : Prs w a cap l) (hl : l.length ≤ 1200000) (hs : Srt l) (n : Nat) (xv : Int) (hq : l[n]? = some (k, xv)) (hix : ixL l k = n) :
    Calls Try.prog 14 #[.slice a l.length cap, .agg #[.int .i64 4, .int .i64 k, .int .i64 hi, .int .i64 v]] w (DoIs w l ⟨0, true, k, xv, 0, []⟩) := by
  have ba : Below w.heap.size w ((w.alloc (.cells #[.int .i64 4, .int .i64 k, .int .i64 hi, .int .i64 v] 25)).alloc (.cells #[.int .i64 0, .bool false, .int .i64 0, .int .i64 0, .int .i64 0, .slice none 0 0] 34)) := ((Below.refl _ _).alloc (Nat.le_refl _) _).alloc (by simp) _
  have HA := Lib.hid (h.below ba)
  have HH := Lib.hid h
  have hcc := h.1
  have hcm := h.2.1
  unfold maxLen at hcm
  have c1 := fun W h => rmay_any a cap l W h true (decide_eq_true hs)
  have c2 := fun W => rmayop_any 4 k hi v W true (decide_eq_true (by unfold okOp; omega))
  have c3 := fun W h => rfind_any a cap l k W h
  rw [hix] at c3
  have hn := (List.getElem?_eq_some_iff.1 hq).1
  have hn0 : (0 : Int) ≤ (n : Int) := by omega
  have hn1 : (n : Int) < (l.length : Int) := by omega
  obtain ⟨pb, po, rfl, e0, e1⟩ := h.2.2.1 n _ hq
  dsimp only at e0 e1
  have HQ := Lib.hid (And.intro e0 e1)
  clear hq e0 e1
  clear h hs hix
  go_enter Try.func14, Try.ntmps14
  go_wp2_with (first
    | (at_builtin; refine wpList_app rfl (.const (.slice none 0 0)) (.tmp 9) rfl (fun j => j < w.heap.size + 2) _ [] l rfl (PRow.nil _ _) rz2 _ rfl (src_any HA.out) (by simp; omega) l.length (by simp) l rfl ?_; intro ao cp w1 hm1 hc1 hR1 hO1; have H1 : Hid (RW w w1 _ k hi v l ao cp) := Lib.hid (RW.start hR1 hO1); clear hR1 hO1; unfold maxLen at hm1)
    | (go_at_call 12; ((with_reducible refine (c1 _ (HH.out.below H1.out.b)).mono ?_); clear c1; rintro e w2 ⟨rfl, hb2⟩; have H2 := Lib.hid (H1.out.keep hb2); have p0 := H2.out.p0; have p1 := H2.out.p1; have p2 := H2.out.p2; have p3 := H2.out.p3; clear hb2))
    | (go_at_call 11; ((with_reducible refine (c2 _).mono ?_); clear c2; rintro e w3 ⟨rfl, hb3⟩; have H3 := Lib.hid (H2.out.keep hb3); have a1 := cell_alloc H3.out.p1 (.cells #[.int .i64 0, .bool false, .int .i64 0, .int .i64 0, .int .i64 0, .slice none 0 0] 34); clear p0 p1 p2 p3 hb3))
    | (go_at_call 22; ((with_reducible refine (c3 _ (HH.out.below (H3.out.b.trans (((Below.refl _ _).alloc (Nat.le_refl _) _).mono H3.out.b.size)))).mono ?_); clear c3; rintro e w5 ⟨rfl, hb5⟩; have H5 := Lib.hid (H3.out.past5 hb5); have p0 := H5.out.p0; have p1 := H5.out.p1; have p2 := H5.out.p2; have p3 := H5.out.p3; have GA := Lib.hid ((AC.new w3 34).keep hb5); obtain ⟨y0, y1, y2, y3, y4, y5, g0, g1, g2, g3, g4, g5⟩ := (AC.new w3 34).keep hb5; have NG : Hid ((Value.slice ao l.length cp).ownBlock ≠ some w3.heap.size) := Lib.hid (fun e => Nat.lt_irrefl _ (H3.out.row.row.lt _ e).2); have hlt3 := H3.out.r.lt; have hne1 : ¬ w3.heap.size = w.heap.size := (by omega); have hne2 : ¬ w.heap.size = w3.heap.size := (by omega); have e0 := cell_keep HQ.out.1 H5.out.b; have e1 := cell_keep HQ.out.2 H5.out.b; clear hb5 a1)))
  clear p0 p1 p2 p3 y0 y1 y2 y3 y4 y5 g0 g1 g2 g3 g4 g5
  have GZ := Lib.hid (GA.out.found k xv).1
  have HZ := Lib.hid (H5.out.only (GA.out.found k xv).2 (by have := H3.out.r.lt; omega) NG.out)
  generalize (((w5.setCell ⟨w3.heap.size, 2, none⟩ (.int .i64 k)).setCell ⟨w3.heap.size, 3, none⟩ (.int .i64 xv)).setCell ⟨w3.heap.size, 1, none⟩ (.bool true) : World) = WZ at *
  obtain ⟨z0, z1, z2, z3, z4, z5, f0, f1, f2, f3, f4, f5⟩ := HZ.out.r
  obtain ⟨y0, y1, y2, y3, y4, y5, g0, g1, g2, g3, g4, g5⟩ := GZ.out
  go_region_with (fail)
  all_goals
    go_wp2_with (fail)
    obtain ⟨Wf, hWf, r, rb⟩ := HZ.out.r.put 0 true k xv 0 (.slice none 0 0)
    rw [← hWf]
    obtain ⟨r0, r1, r2, r3, r4, r5, -, -, -, -, -, -⟩ := r
    refine bodyPost_ret (v := .tuple #[.slice ao l.length cp, .agg #[.int .i64 0, .bool true, .int .i64 k, .int .i64 xv, .int .i64 0, .slice none 0 0]]) (by simp [results, Try.results14, go_sem, r0, r1, r2, r3, r4, r5]) rfl ?_
    exact ⟨ao, cp, none, 0, rfl, (HZ.out.row.put (putO hWf) (Nat.le_succ _) (fun k hk => by omega)).below ((Below.refl _ _).drew), PRow.nil _ _, (HZ.out.b.trans (rb.mono (by omega))).drew⟩

set_option maxHeartbeats 6400000 in
theorem rdo_2y (a : Option Addr) (cap : Nat) (l : List Pr) (k hi v : Int) (w : World) (h : Prs w a cap l) (hl : l.length ≤ 1200000) (hs : Srt l) (n : Nat) (xv : Int) (hq : l[n]? = some (k, xv)) (hix : ixL l k = n) :
    Calls Try.prog 14 #[.slice a l.length cap, .agg #[.int .i64 2, .int .i64 k, .int .i64 hi, .int .i64 v]] w (DoIs w l ⟨0, true, k, xv, 0, []⟩) := by
  have ba : Below w.heap.size w ((w.alloc (.cells #[.int .i64 2, .int .i64 k, .int .i64 hi, .int .i64 v] 25)).alloc (.cells #[.int .i64 0, .bool false, .int .i64 0, .int .i64 0, .int .i64 0, .slice none 0 0] 34)) := ((Below.refl _ _).alloc (Nat.le_refl _) _).alloc (by simp) _
  have HA := Lib.hid (h.below ba)
  have HH := Lib.hid h
  have hcc := h.1
  have hcm := h.2.1
  unfold maxLen at hcm
  have c1 := fun W h => rmay_any a cap l W h true (decide_eq_true hs)
  have c2 := fun W => rmayop_any 2 k hi v W true (decide_eq_true (by unfold okOp; omega))
  have c3 := fun W h => rfind_any a cap l k W h
  rw [hix] at c3
  have hn := (List.getElem?_eq_some_iff.1 hq).1
  have hn0 : (0 : Int) ≤ (n : Int) := by omega
  have hn1 : (n : Int) < (l.length : Int) := by omega
  obtain ⟨pb, po, rfl, e0, e1⟩ := h.2.2.1 n _ hq
  dsimp only at e0 e1
  have HQ := Lib.hid (And.intro e0 e1)
  clear hq e0 e1
  clear h hs hix
  go_enter Try.func14, Try.ntmps14
  go_wp2_with (first
    | (at_builtin; refine wpList_app rfl (.const (.slice none 0 0)) (.tmp 9) rfl (fun j => j < w.heap.size + 2) _ [] l rfl (PRow.nil _ _) rz2 _ rfl (src_any HA.out) (by simp; omega) l.length (by simp) l rfl ?_; intro ao cp w1 hm1 hc1 hR1 hO1; have H1 : Hid (RW w w1 _ k hi v l ao cp) := Lib.hid (RW.start hR1 hO1); clear hR1 hO1; unfold maxLen at hm1)
    | (go_at_call 12; ((with_reducible refine (c1 _ (HH.out.below H1.out.b)).mono ?_); clear c1; rintro e w2 ⟨rfl, hb2⟩; have H2 := Lib.hid (H1.out.keep hb2); have p0 := H2.out.p0; have p1 := H2.out.p1; have p2 := H2.out.p2; have p3 := H2.out.p3; clear hb2))
    | (go_at_call 11; ((with_reducible refine (c2 _).mono ?_); clear c2; rintro e w3 ⟨rfl, hb3⟩; have H3 := Lib.hid (H2.out.keep hb3); have a1 := cell_alloc H3.out.p1 (.cells #[.int .i64 0, .bool false, .int .i64 0, .int .i64 0, .int .i64 0, .slice none 0 0] 34); clear p0 p1 p2 p3 hb3))
    | (go_at_call 22; ((with_reducible refine (c3 _ (HH.out.below (H3.out.b.trans (((Below.refl _ _).alloc (Nat.le_refl _) _).mono H3.out.b.size)))).mono ?_); clear c3; rintro e w5 ⟨rfl, hb5⟩; have H5 := Lib.hid (H3.out.past5 hb5); have p0 := H5.out.p0; have p1 := H5.out.p1; have p2 := H5.out.p2; have p3 := H5.out.p3; have GA := Lib.hid ((AC.new w3 34).keep hb5); obtain ⟨y0, y1, y2, y3, y4, y5, g0, g1, g2, g3, g4, g5⟩ := (AC.new w3 34).keep hb5; have NG : Hid ((Value.slice ao l.length cp).ownBlock ≠ some w3.heap.size) := Lib.hid (fun e => Nat.lt_irrefl _ (H3.out.row.row.lt _ e).2); have hlt3 := H3.out.r.lt; have hne1 : ¬ w3.heap.size = w.heap.size := (by omega); have hne2 : ¬ w.heap.size = w3.heap.size := (by omega); have e0 := cell_keep HQ.out.1 H5.out.b; have e1 := cell_keep HQ.out.2 H5.out.b; clear hb5 a1)))
  clear p0 p1 p2 p3 y0 y1 y2 y3 y4 y5 g0 g1 g2 g3 g4 g5
  have GZ := Lib.hid (GA.out.found k xv).1
  have HZ := Lib.hid (H5.out.only (GA.out.found k xv).2 (by have := H3.out.r.lt; omega) NG.out)
  generalize (((w5.setCell ⟨w3.heap.size, 2, none⟩ (.int .i64 k)).setCell ⟨w3.heap.size, 3, none⟩ (.int .i64 xv)).setCell ⟨w3.heap.size, 1, none⟩ (.bool true) : World) = WZ at *
  obtain ⟨z0, z1, z2, z3, z4, z5, f0, f1, f2, f3, f4, f5⟩ := HZ.out.r
  obtain ⟨y0, y1, y2, y3, y4, y5, g0, g1, g2, g3, g4, g5⟩ := GZ.out
  go_region_with (fail)
  all_goals
    go_wp2_with (fail)
    obtain ⟨Wf, hWf, r, rb⟩ := HZ.out.r.put 0 true k xv 0 (.slice none 0 0)
    rw [← hWf]
    obtain ⟨r0, r1, r2, r3, r4, r5, -, -, -, -, -, -⟩ := r
    refine bodyPost_ret (v := .tuple #[.slice ao l.length cp, .agg #[.int .i64 0, .bool true, .int .i64 k, .int .i64 xv, .int .i64 0, .slice none 0 0]]) (by simp [results, Try.results14, go_sem, r0, r1, r2, r3, r4, r5]) rfl ?_
    exact ⟨ao, cp, none, 0, rfl, (HZ.out.row.put (putO hWf) (Nat.le_succ _) (fun k hk => by omega)).below ((Below.refl _ _).drew), PRow.nil _ _, (HZ.out.b.trans (rb.mono (by omega))).drew⟩

set_option maxHeartbeats 6400000 in
theorem rdo_1y (a : Option Addr) (cap : Nat) (l : List Pr) (k hi v : Int) (w : World) (h : Prs w a cap l) (hl : l.length ≤ 1200000) (hs : Srt l) (n : Nat) (xv : Int) (hq : l[n]? = some (k, xv)) (hix : ixL l k = n) :
    Calls Try.prog 14 #[.slice a l.length cap, .agg #[.int .i64 1, .int .i64 k, .int .i64 hi, .int .i64 v]] w (DoIs w (withL l k v) ⟨0, true, k, xv, 0, []⟩) := by
  have ba : Below w.heap.size w ((w.alloc (.cells #[.int .i64 1, .int .i64 k, .int .i64 hi, .int .i64 v] 25)).alloc (.cells #[.int .i64 0, .bool false, .int .i64 0, .int .i64 0, .int .i64 0, .slice none 0 0] 34)) := ((Below.refl _ _).alloc (Nat.le_refl _) _).alloc (by simp) _
  have HA := Lib.hid (h.below ba)
  have HH := Lib.hid h
  have hcc := h.1
  have hcm := h.2.1
  unfold maxLen at hcm
  have c1 := fun W h => rmay_any a cap l W h true (decide_eq_true hs)
  have c2 := fun W => rmayop_any 1 k hi v W true (decide_eq_true (by unfold okOp; omega))
  have c3 := fun W h => rfind_any a cap l k W h
  rw [hix] at c3
  have hn := (List.getElem?_eq_some_iff.1 hq).1
  have hn0 : (0 : Int) ≤ (n : Int) := by omega
  have hn1 : (n : Int) < (l.length : Int) := by omega
  obtain ⟨pb, po, rfl, e0, e1⟩ := h.2.2.1 n _ hq
  dsimp only at e0 e1
  have HQ := Lib.hid (And.intro e0 e1)
  clear hq e0 e1
  have c4 := fun W h => with_is (some ⟨pb, po, none⟩) cap l k v W h (by omega)
  clear h hs hix
  go_enter Try.func14, Try.ntmps14
  go_wp2_with (first
    | (at_builtin; refine wpList_app rfl (.const (.slice none 0 0)) (.tmp 9) rfl (fun j => j < w.heap.size + 2) _ [] l rfl (PRow.nil _ _) rz2 _ rfl (src_any HA.out) (by simp; omega) l.length (by simp) l rfl ?_; intro ao cp w1 hm1 hc1 hR1 hO1; have H1 : Hid (RW w w1 _ k hi v l ao cp) := Lib.hid (RW.start hR1 hO1); clear hR1 hO1; unfold maxLen at hm1)
    | (go_at_call 12; ((with_reducible refine (c1 _ (HH.out.below H1.out.b)).mono ?_); clear c1; rintro e w2 ⟨rfl, hb2⟩; have H2 := Lib.hid (H1.out.keep hb2); have p0 := H2.out.p0; have p1 := H2.out.p1; have p2 := H2.out.p2; have p3 := H2.out.p3; clear hb2))
    | (go_at_call 11; ((with_reducible refine (c2 _).mono ?_); clear c2; rintro e w3 ⟨rfl, hb3⟩; have H3 := Lib.hid (H2.out.keep hb3); have a1 := cell_alloc H3.out.p1 (.cells #[.int .i64 0, .bool false, .int .i64 0, .int .i64 0, .int .i64 0, .slice none 0 0] 34); clear p0 p1 p2 p3 hb3))
    | (go_at_call 22; ((with_reducible refine (c3 _ (HH.out.below (H3.out.b.trans (((Below.refl _ _).alloc (Nat.le_refl _) _).mono H3.out.b.size)))).mono ?_); clear c3; rintro e w5 ⟨rfl, hb5⟩; have H5 := Lib.hid (H3.out.past5 hb5); have p0 := H5.out.p0; have p1 := H5.out.p1; have p2 := H5.out.p2; have p3 := H5.out.p3; have GA := Lib.hid ((AC.new w3 34).keep hb5); obtain ⟨y0, y1, y2, y3, y4, y5, g0, g1, g2, g3, g4, g5⟩ := (AC.new w3 34).keep hb5; have NG : Hid ((Value.slice ao l.length cp).ownBlock ≠ some w3.heap.size) := Lib.hid (fun e => Nat.lt_irrefl _ (H3.out.row.row.lt _ e).2); have hlt3 := H3.out.r.lt; have hne1 : ¬ w3.heap.size = w.heap.size := (by omega); have hne2 : ¬ w.heap.size = w3.heap.size := (by omega); have e0 := cell_keep HQ.out.1 H5.out.b; have e1 := cell_keep HQ.out.2 H5.out.b; clear hb5 a1)))
  clear p0 p1 p2 p3 y0 y1 y2 y3 y4 y5 g0 g1 g2 g3 g4 g5
  have GZ := Lib.hid (GA.out.found k xv).1
  have HZ := Lib.hid (H5.out.only (GA.out.found k xv).2 (by have := H3.out.r.lt; omega) NG.out)
  generalize (((w5.setCell ⟨w3.heap.size, 2, none⟩ (.int .i64 k)).setCell ⟨w3.heap.size, 3, none⟩ (.int .i64 xv)).setCell ⟨w3.heap.size, 1, none⟩ (.bool true) : World) = WZ at *
  obtain ⟨p0, p1, p2, p3⟩ : _ ∧ _ ∧ _ ∧ _ := ⟨HZ.out.p0, HZ.out.p1, HZ.out.p2, HZ.out.p3⟩
  obtain ⟨y0, y1, y2, y3, y4, y5, g0, g1, g2, g3, g4, g5⟩ := GZ.out
  have W4 := Lib.hid (And.intro p1 p3)
  go_region_with (go_at_call 23; ((with_reducible refine (c4 _ (HH.out.below HZ.out.b.drew)).mono ?_); rintro e w8 ⟨⟨ao2, cp2, rfl, hR8, hb8⟩, _⟩; have hBZ : Below WZ.heap.size WZ w8 := ((Below.refl _ _).drew).trans hb8; have H8 := Lib.hid (HZ.out.keep hBZ); obtain ⟨y0, y1, y2, y3, y4, y5, g0, g1, g2, g3, g4, g5⟩ := GZ.out.keep hBZ; obtain ⟨z0, z1, z2, z3, z4, z5, f0, f1, f2, f3, f4, f5⟩ := H8.out.r; have HR8 := Lib.hid (hR8.sub (S' := fun j => j < w.heap.size + 2) (fun j _ hj => Nat.lt_of_lt_of_le hj (show w.heap.size + 2 ≤ WZ.heap.size from HZ.out.r.lt))); clear hR8 hb8 hBZ))
  all_goals
    go_wp2_with (fail)
    obtain ⟨Wf, hWf, r, rb⟩ := H8.out.r.put 0 true k xv 0 (.slice none 0 0)
    rw [← hWf]
    obtain ⟨r0, r1, r2, r3, r4, r5, -, -, -, -, -, -⟩ := r
    refine bodyPost_ret (v := .tuple #[.slice ao2 (withL l k v).length cp2, .agg #[.int .i64 0, .bool true, .int .i64 k, .int .i64 xv, .int .i64 0, .slice none 0 0]]) (by simp [results, Try.results14, go_sem, r0, r1, r2, r3, r4, r5]) rfl ?_
    exact ⟨ao2, cp2, none, 0, rfl, HR8.out.put (putO hWf) (Nat.le_succ _) (fun k hk => by omega), PRow.nil _ _, H8.out.b.trans (rb.mono (by omega))⟩

set_option maxHeartbeats 6400000 in
theorem rdo_3y (a : Option Addr) (cap : Nat) (l : List Pr) (k hi v : Int) (w : World) (h : Prs w a cap l) (hl : l.length ≤ 1200000) (hs : Srt l) (n : Nat) (xv : Int) (hq : l[n]? = some (k, xv)) (hix : ixL l k = n) :
    Calls Try.prog 14 #[.slice a l.length cap, .agg #[.int .i64 3, .int .i64 k, .int .i64 hi, .int .i64 v]] w (DoIs w (cutL l k) ⟨0, true, k, xv, 0, []⟩) := by
  have ba : Below w.heap.size w ((w.alloc (.cells #[.int .i64 3, .int .i64 k, .int .i64 hi, .int .i64 v] 25)).alloc (.cells #[.int .i64 0, .bool false, .int .i64 0, .int .i64 0, .int .i64 0, .slice none 0 0] 34)) := ((Below.refl _ _).alloc (Nat.le_refl _) _).alloc (by simp) _
  have HA := Lib.hid (h.below ba)
  have HH := Lib.hid h
  have hcc := h.1
  have hcm := h.2.1
  unfold maxLen at hcm
  have c1 := fun W h => rmay_any a cap l W h true (decide_eq_true hs)
  have c2 := fun W => rmayop_any 3 k hi v W true (decide_eq_true (by unfold okOp; omega))
  have c3 := fun W h => rfind_any a cap l k W h
  rw [hix] at c3
  have hn := (List.getElem?_eq_some_iff.1 hq).1
  have hn0 : (0 : Int) ≤ (n : Int) := by omega
  have hn1 : (n : Int) < (l.length : Int) := by omega
  obtain ⟨pb, po, rfl, e0, e1⟩ := h.2.2.1 n _ hq
  dsimp only at e0 e1
  have HQ := Lib.hid (And.intro e0 e1)
  clear hq e0 e1
  have c4 := fun W h => without_is (some ⟨pb, po, none⟩) cap l k W h (by omega)
  clear h hs hix
  go_enter Try.func14, Try.ntmps14
  go_wp2_with (first
    | (at_builtin; refine wpList_app rfl (.const (.slice none 0 0)) (.tmp 9) rfl (fun j => j < w.heap.size + 2) _ [] l rfl (PRow.nil _ _) rz2 _ rfl (src_any HA.out) (by simp; omega) l.length (by simp) l rfl ?_; intro ao cp w1 hm1 hc1 hR1 hO1; have H1 : Hid (RW w w1 _ k hi v l ao cp) := Lib.hid (RW.start hR1 hO1); clear hR1 hO1; unfold maxLen at hm1)
    | (go_at_call 12; ((with_reducible refine (c1 _ (HH.out.below H1.out.b)).mono ?_); clear c1; rintro e w2 ⟨rfl, hb2⟩; have H2 := Lib.hid (H1.out.keep hb2); have p0 := H2.out.p0; have p1 := H2.out.p1; have p2 := H2.out.p2; have p3 := H2.out.p3; clear hb2))
    | (go_at_call 11; ((with_reducible refine (c2 _).mono ?_); clear c2; rintro e w3 ⟨rfl, hb3⟩; have H3 := Lib.hid (H2.out.keep hb3); have a1 := cell_alloc H3.out.p1 (.cells #[.int .i64 0, .bool false, .int .i64 0, .int .i64 0, .int .i64 0, .slice none 0 0] 34); clear p0 p1 p2 p3 hb3))
    | (go_at_call 22; ((with_reducible refine (c3 _ (HH.out.below (H3.out.b.trans (((Below.refl _ _).alloc (Nat.le_refl _) _).mono H3.out.b.size)))).mono ?_); clear c3; rintro e w5 ⟨rfl, hb5⟩; have H5 := Lib.hid (H3.out.past5 hb5); have p0 := H5.out.p0; have p1 := H5.out.p1; have p2 := H5.out.p2; have p3 := H5.out.p3; have GA := Lib.hid ((AC.new w3 34).keep hb5); obtain ⟨y0, y1, y2, y3, y4, y5, g0, g1, g2, g3, g4, g5⟩ := (AC.new w3 34).keep hb5; have NG : Hid ((Value.slice ao l.length cp).ownBlock ≠ some w3.heap.size) := Lib.hid (fun e => Nat.lt_irrefl _ (H3.out.row.row.lt _ e).2); have hlt3 := H3.out.r.lt; have hne1 : ¬ w3.heap.size = w.heap.size := (by omega); have hne2 : ¬ w.heap.size = w3.heap.size := (by omega); have e0 := cell_keep HQ.out.1 H5.out.b; have e1 := cell_keep HQ.out.2 H5.out.b; clear hb5 a1))
    | (go_at_call 24; ((with_reducible refine (c4 _ (HH.out.below (H5.out.only (GA.out.found k xv).2 (by have := H3.out.r.lt; omega) NG.out).b)).mono ?_); rintro e w8 ⟨ao2, cp2, rfl, hR8, hb8⟩; have HZ := Lib.hid ((H5.out.only (GA.out.found k xv).2 (by have := H3.out.r.lt; omega) NG.out).keep hb8); have GZ := Lib.hid (((GA.out.found k xv).1).keep hb8); have HR8 := Lib.hid (hR8.sub (S' := fun j => j < w.heap.size + 2) (fun j _ hj => Nat.lt_of_lt_of_le hj (show w.heap.size + 2 ≤ _ from (H5.out.only (GA.out.found k xv).2 (by have := H3.out.r.lt; omega) NG.out).r.lt))); clear p0 p1 p2 p3 y0 y1 y2 y3 y4 y5 g0 g1 g2 g3 g4 g5 hR8 hb8; obtain ⟨p0, p1, p2, p3⟩ : _ ∧ _ ∧ _ ∧ _ := ⟨HZ.out.p0, HZ.out.p1, HZ.out.p2, HZ.out.p3⟩)))
  obtain ⟨z0, z1, z2, z3, z4, z5, f0, f1, f2, f3, f4, f5⟩ := HZ.out.r
  obtain ⟨y0, y1, y2, y3, y4, y5, g0, g1, g2, g3, g4, g5⟩ := GZ.out
  go_region_with (fail)
  all_goals
    go_wp2_with (fail)
    obtain ⟨Wf, hWf, r, rb⟩ := HZ.out.r.put 0 true k xv 0 (.slice none 0 0)
    rw [← hWf]
    obtain ⟨r0, r1, r2, r3, r4, r5, -, -, -, -, -, -⟩ := r
    refine bodyPost_ret (v := .tuple #[.slice ao2 (cutL l k).length cp2, .agg #[.int .i64 0, .bool true, .int .i64 k, .int .i64 xv, .int .i64 0, .slice none 0 0]]) (by simp [results, Try.results14, go_sem, r0, r1, r2, r3, r4, r5]) rfl ?_
    exact ⟨ao2, cp2, none, 0, rfl, (HR8.out.put (putO hWf) (Nat.le_succ _) (fun k hk => by omega)).below ((Below.refl _ _).drew), PRow.nil _ _, (HZ.out.b.trans (rb.mono (by omega))).drew⟩

set_option maxHeartbeats 6400000 in
theorem rdo_4n (a : Option Addr) (cap : Nat) (l : List Pr) (k hi v : Int) (w : World) (h : Prs w a cap l) (hl : l.length ≤ 1200000) (hs : Srt l) (hix : ixL l k = -1) :
    Calls Try.prog 14 #[.slice a l.length cap, .agg #[.int .i64 4, .int .i64 k, .int .i64 hi, .int .i64 v]] w (DoIs w l ⟨0, false, 0, 0, 0, []⟩) := by
  have ba : Below w.heap.size w ((w.alloc (.cells #[.int .i64 4, .int .i64 k, .int .i64 hi, .int .i64 v] 25)).alloc (.cells #[.int .i64 0, .bool false, .int .i64 0, .int .i64 0, .int .i64 0, .slice none 0 0] 34)) := ((Below.refl _ _).alloc (Nat.le_refl _) _).alloc (by simp) _
  have HA := Lib.hid (h.below ba)
  have HH := Lib.hid h
  have hcc := h.1
  have hcm := h.2.1
  unfold maxLen at hcm
  have c1 := fun W h => rmay_any a cap l W h true (decide_eq_true hs)
  have c2 := fun W => rmayop_any 4 k hi v W true (decide_eq_true (by unfold okOp; omega))
  have c3 := fun W h => rfind_any a cap l k W h
  rw [hix] at c3
  clear h hs hix
  go_enter Try.func14, Try.ntmps14
  go_wp2_with (first
    | (at_builtin; refine wpList_app rfl (.const (.slice none 0 0)) (.tmp 9) rfl (fun j => j < w.heap.size + 2) _ [] l rfl (PRow.nil _ _) rz2 _ rfl (src_any HA.out) (by simp; omega) l.length (by simp) l rfl ?_; intro ao cp w1 hm1 hc1 hR1 hO1; have H1 : Hid (RW w w1 _ k hi v l ao cp) := Lib.hid (RW.start hR1 hO1); clear hR1 hO1; unfold maxLen at hm1)
    | (go_at_call 12; ((with_reducible refine (c1 _ (HH.out.below H1.out.b)).mono ?_); clear c1; rintro e w2 ⟨rfl, hb2⟩; have H2 := Lib.hid (H1.out.keep hb2); have p0 := H2.out.p0; have p1 := H2.out.p1; have p2 := H2.out.p2; have p3 := H2.out.p3; clear hb2))
    | (go_at_call 11; ((with_reducible refine (c2 _).mono ?_); clear c2; rintro e w3 ⟨rfl, hb3⟩; have H3 := Lib.hid (H2.out.keep hb3); have a1 := cell_alloc H3.out.p1 (.cells #[.int .i64 0, .bool false, .int .i64 0, .int .i64 0, .int .i64 0, .slice none 0 0] 34); clear p0 p1 p2 p3 hb3))
    | (go_at_call 22; ((with_reducible refine (c3 _ (HH.out.below (H3.out.b.trans (((Below.refl _ _).alloc (Nat.le_refl _) _).mono H3.out.b.size)))).mono ?_); clear c3; rintro e w5 ⟨rfl, hb5⟩; have H5 := Lib.hid (H3.out.past5 hb5); have p0 := H5.out.p0; have p1 := H5.out.p1; have p2 := H5.out.p2; have p3 := H5.out.p3; have GA := Lib.hid ((AC.new w3 34).keep hb5); obtain ⟨y0, y1, y2, y3, y4, y5, g0, g1, g2, g3, g4, g5⟩ := (AC.new w3 34).keep hb5; have NG : Hid ((Value.slice ao l.length cp).ownBlock ≠ some w3.heap.size) := Lib.hid (fun e => Nat.lt_irrefl _ (H3.out.row.row.lt _ e).2); have hlt3 := H3.out.r.lt; have hne1 : ¬ w3.heap.size = w.heap.size := (by omega); have hne2 : ¬ w.heap.size = w3.heap.size := (by omega); clear hb5 a1)))
  clear p0 p1 p2 p3 y0 y1 y2 y3 y4 y5 g0 g1 g2 g3 g4 g5
  have GZ := GA
  have HZ := H5
  obtain ⟨z0, z1, z2, z3, z4, z5, f0, f1, f2, f3, f4, f5⟩ := HZ.out.r
  obtain ⟨y0, y1, y2, y3, y4, y5, g0, g1, g2, g3, g4, g5⟩ := GZ.out
  go_region_with (fail)
  all_goals
    go_wp2_with (fail)
    obtain ⟨Wf, hWf, r, rb⟩ := HZ.out.r.put 0 false 0 0 0 (.slice none 0 0)
    rw [← hWf]
    obtain ⟨r0, r1, r2, r3, r4, r5, -, -, -, -, -, -⟩ := r
    refine bodyPost_ret (v := .tuple #[.slice ao l.length cp, .agg #[.int .i64 0, .bool false, .int .i64 0, .int .i64 0, .int .i64 0, .slice none 0 0]]) (by simp [results, Try.results14, go_sem, r0, r1, r2, r3, r4, r5]) rfl ?_
    exact ⟨ao, cp, none, 0, rfl, (HZ.out.row.put (putO hWf) (Nat.le_succ _) (fun k hk => by omega)).below ((Below.refl _ _).drew), PRow.nil _ _, (HZ.out.b.trans (rb.mono (by omega))).drew⟩

set_option maxHeartbeats 6400000 in
theorem rdo_1n (a : Option Addr) (cap : Nat) (l : List Pr) (k hi v : Int) (w : World) (h : Prs w a cap l) (hl : l.length ≤ 1200000) (hs : Srt l) (hix : ixL l k = -1) :
    Calls Try.prog 14 #[.slice a l.length cap, .agg #[.int .i64 1, .int .i64 k, .int .i64 hi, .int .i64 v]] w (DoIs w (withL l k v) ⟨0, false, 0, 0, 0, []⟩) := by
  have ba : Below w.heap.size w ((w.alloc (.cells #[.int .i64 1, .int .i64 k, .int .i64 hi, .int .i64 v] 25)).alloc (.cells #[.int .i64 0, .bool false, .int .i64 0, .int .i64 0, .int .i64 0, .slice none 0 0] 34)) := ((Below.refl _ _).alloc (Nat.le_refl _) _).alloc (by simp) _
  have HA := Lib.hid (h.below ba)
  have HH := Lib.hid h
  have hcc := h.1
  have hcm := h.2.1
  unfold maxLen at hcm
  have c1 := fun W h => rmay_any a cap l W h true (decide_eq_true hs)
  have c2 := fun W => rmayop_any 1 k hi v W true (decide_eq_true (by unfold okOp; omega))
  have c3 := fun W h => rfind_any a cap l k W h
  rw [hix] at c3
  have c4 := fun W h => with_is a cap l k v W h (by omega)
  clear h hs hix
  go_enter Try.func14, Try.ntmps14
  go_wp2_with (first
    | (at_builtin; refine wpList_app rfl (.const (.slice none 0 0)) (.tmp 9) rfl (fun j => j < w.heap.size + 2) _ [] l rfl (PRow.nil _ _) rz2 _ rfl (src_any HA.out) (by simp; omega) l.length (by simp) l rfl ?_; intro ao cp w1 hm1 hc1 hR1 hO1; have H1 : Hid (RW w w1 _ k hi v l ao cp) := Lib.hid (RW.start hR1 hO1); clear hR1 hO1; unfold maxLen at hm1)
    | (go_at_call 12; ((with_reducible refine (c1 _ (HH.out.below H1.out.b)).mono ?_); clear c1; rintro e w2 ⟨rfl, hb2⟩; have H2 := Lib.hid (H1.out.keep hb2); have p0 := H2.out.p0; have p1 := H2.out.p1; have p2 := H2.out.p2; have p3 := H2.out.p3; clear hb2))
    | (go_at_call 11; ((with_reducible refine (c2 _).mono ?_); clear c2; rintro e w3 ⟨rfl, hb3⟩; have H3 := Lib.hid (H2.out.keep hb3); have a1 := cell_alloc H3.out.p1 (.cells #[.int .i64 0, .bool false, .int .i64 0, .int .i64 0, .int .i64 0, .slice none 0 0] 34); clear p0 p1 p2 p3 hb3))
    | (go_at_call 22; ((with_reducible refine (c3 _ (HH.out.below (H3.out.b.trans (((Below.refl _ _).alloc (Nat.le_refl _) _).mono H3.out.b.size)))).mono ?_); clear c3; rintro e w5 ⟨rfl, hb5⟩; have H5 := Lib.hid (H3.out.past5 hb5); have p0 := H5.out.p0; have p1 := H5.out.p1; have p2 := H5.out.p2; have p3 := H5.out.p3; have GA := Lib.hid ((AC.new w3 34).keep hb5); obtain ⟨y0, y1, y2, y3, y4, y5, g0, g1, g2, g3, g4, g5⟩ := (AC.new w3 34).keep hb5; have NG : Hid ((Value.slice ao l.length cp).ownBlock ≠ some w3.heap.size) := Lib.hid (fun e => Nat.lt_irrefl _ (H3.out.row.row.lt _ e).2); have hlt3 := H3.out.r.lt; have hne1 : ¬ w3.heap.size = w.heap.size := (by omega); have hne2 : ¬ w.heap.size = w3.heap.size := (by omega); clear hb5 a1)))
  clear p0 p1 p2 p3 y0 y1 y2 y3 y4 y5 g0 g1 g2 g3 g4 g5
  have GZ := GA
  have HZ := H5
  obtain ⟨p0, p1, p2, p3⟩ : _ ∧ _ ∧ _ ∧ _ := ⟨HZ.out.p0, HZ.out.p1, HZ.out.p2, HZ.out.p3⟩
  obtain ⟨y0, y1, y2, y3, y4, y5, g0, g1, g2, g3, g4, g5⟩ := GZ.out
  have W4 := Lib.hid (And.intro p1 p3)
  go_region_with (go_at_call 23; ((with_reducible refine (c4 _ (HH.out.below HZ.out.b.drew)).mono ?_); rintro e w8 ⟨⟨ao2, cp2, rfl, hR8, hb8⟩, _⟩; have hBZ : Below w5.heap.size w5 w8 := ((Below.refl _ _).drew).trans hb8; have H8 := Lib.hid (HZ.out.keep hBZ); obtain ⟨y0, y1, y2, y3, y4, y5, g0, g1, g2, g3, g4, g5⟩ := GZ.out.keep hBZ; obtain ⟨z0, z1, z2, z3, z4, z5, f0, f1, f2, f3, f4, f5⟩ := H8.out.r; have HR8 := Lib.hid (hR8.sub (S' := fun j => j < w.heap.size + 2) (fun j _ hj => Nat.lt_of_lt_of_le hj (show w.heap.size + 2 ≤ w5.heap.size from HZ.out.r.lt))); clear hR8 hb8 hBZ))
  all_goals
    go_wp2_with (fail)
    obtain ⟨Wf, hWf, r, rb⟩ := H8.out.r.put 0 false 0 0 0 (.slice none 0 0)
    rw [← hWf]
    obtain ⟨r0, r1, r2, r3, r4, r5, -, -, -, -, -, -⟩ := r
    refine bodyPost_ret (v := .tuple #[.slice ao2 (withL l k v).length cp2, .agg #[.int .i64 0, .bool false, .int .i64 0, .int .i64 0, .int .i64 0, .slice none 0 0]]) (by simp [results, Try.results14, go_sem, r0, r1, r2, r3, r4, r5]) rfl ?_
    exact ⟨ao2, cp2, none, 0, rfl, HR8.out.put (putO hWf) (Nat.le_succ _) (fun k hk => by omega), PRow.nil _ _, H8.out.b.trans (rb.mono (by omega))⟩

set_option maxHeartbeats 6400000 in
theorem rdo_3n (a : Option Addr) (cap : Nat) (l : List Pr) (k hi v : Int) (w : World) (h : Prs w a cap l) (hl : l.length ≤ 1200000) (hs : Srt l) (hix : ixL l k = -1) :
    Calls Try.prog 14 #[.slice a l.length cap, .agg #[.int .i64 3, .int .i64 k, .int .i64 hi, .int .i64 v]] w (DoIs w (cutL l k) ⟨0, false, 0, 0, 0, []⟩) := by
  have ba : Below w.heap.size w ((w.alloc (.cells #[.int .i64 3, .int .i64 k, .int .i64 hi, .int .i64 v] 25)).alloc (.cells #[.int .i64 0, .bool false, .int .i64 0, .int .i64 0, .int .i64 0, .slice none 0 0] 34)) := ((Below.refl _ _).alloc (Nat.le_refl _) _).alloc (by simp) _
  have HA := Lib.hid (h.below ba)
  have HH := Lib.hid h
  have hcc := h.1
  have hcm := h.2.1
  unfold maxLen at hcm
  have c1 := fun W h => rmay_any a cap l W h true (decide_eq_true hs)
  have c2 := fun W => rmayop_any 3 k hi v W true (decide_eq_true (by unfold okOp; omega))
  have c3 := fun W h => rfind_any a cap l k W h
  rw [hix] at c3
  have c4 := fun W h => without_is a cap l k W h (by omega)
  clear h hs hix
  go_enter Try.func14, Try.ntmps14
  go_wp2_with (first
    | (at_builtin; refine wpList_app rfl (.const (.slice none 0 0)) (.tmp 9) rfl (fun j => j < w.heap.size + 2) _ [] l rfl (PRow.nil _ _) rz2 _ rfl (src_any HA.out) (by simp; omega) l.length (by simp) l rfl ?_; intro ao cp w1 hm1 hc1 hR1 hO1; have H1 : Hid (RW w w1 _ k hi v l ao cp) := Lib.hid (RW.start hR1 hO1); clear hR1 hO1; unfold maxLen at hm1)
    | (go_at_call 12; ((with_reducible refine (c1 _ (HH.out.below H1.out.b)).mono ?_); clear c1; rintro e w2 ⟨rfl, hb2⟩; have H2 := Lib.hid (H1.out.keep hb2); have p0 := H2.out.p0; have p1 := H2.out.p1; have p2 := H2.out.p2; have p3 := H2.out.p3; clear hb2))
    | (go_at_call 11; ((with_reducible refine (c2 _).mono ?_); clear c2; rintro e w3 ⟨rfl, hb3⟩; have H3 := Lib.hid (H2.out.keep hb3); have a1 := cell_alloc H3.out.p1 (.cells #[.int .i64 0, .bool false, .int .i64 0, .int .i64 0, .int .i64 0, .slice none 0 0] 34); clear p0 p1 p2 p3 hb3))
    | (go_at_call 22; ((with_reducible refine (c3 _ (HH.out.below (H3.out.b.trans (((Below.refl _ _).alloc (Nat.le_refl _) _).mono H3.out.b.size)))).mono ?_); clear c3; rintro e w5 ⟨rfl, hb5⟩; have H5 := Lib.hid (H3.out.past5 hb5); have p0 := H5.out.p0; have p1 := H5.out.p1; have p2 := H5.out.p2; have p3 := H5.out.p3; have GA := Lib.hid ((AC.new w3 34).keep hb5); obtain ⟨y0, y1, y2, y3, y4, y5, g0, g1, g2, g3, g4, g5⟩ := (AC.new w3 34).keep hb5; have NG : Hid ((Value.slice ao l.length cp).ownBlock ≠ some w3.heap.size) := Lib.hid (fun e => Nat.lt_irrefl _ (H3.out.row.row.lt _ e).2); have hlt3 := H3.out.r.lt; have hne1 : ¬ w3.heap.size = w.heap.size := (by omega); have hne2 : ¬ w.heap.size = w3.heap.size := (by omega); clear hb5 a1))
    | (go_at_call 24; ((with_reducible refine (c4 _ (HH.out.below H5.out.b)).mono ?_); rintro e w8 ⟨ao2, cp2, rfl, hR8, hb8⟩; have HZ := Lib.hid (H5.out.keep hb8); have GZ := Lib.hid ((GA.out).keep hb8); have HR8 := Lib.hid (hR8.sub (S' := fun j => j < w.heap.size + 2) (fun j _ hj => Nat.lt_of_lt_of_le hj (show w.heap.size + 2 ≤ _ from H5.out.r.lt))); clear p0 p1 p2 p3 y0 y1 y2 y3 y4 y5 g0 g1 g2 g3 g4 g5 hR8 hb8; obtain ⟨p0, p1, p2, p3⟩ : _ ∧ _ ∧ _ ∧ _ := ⟨HZ.out.p0, HZ.out.p1, HZ.out.p2, HZ.out.p3⟩)))
  obtain ⟨z0, z1, z2, z3, z4, z5, f0, f1, f2, f3, f4, f5⟩ := HZ.out.r
  obtain ⟨y0, y1, y2, y3, y4, y5, g0, g1, g2, g3, g4, g5⟩ := GZ.out
  go_region_with (fail)
  all_goals
    go_wp2_with (fail)
    obtain ⟨Wf, hWf, r, rb⟩ := HZ.out.r.put 0 false 0 0 0 (.slice none 0 0)
    rw [← hWf]
    obtain ⟨r0, r1, r2, r3, r4, r5, -, -, -, -, -, -⟩ := r
    refine bodyPost_ret (v := .tuple #[.slice ao2 (cutL l k).length cp2, .agg #[.int .i64 0, .bool false, .int .i64 0, .int .i64 0, .int .i64 0, .slice none 0 0]]) (by simp [results, Try.results14, go_sem, r0, r1, r2, r3, r4, r5]) rfl ?_
    exact ⟨ao2, cp2, none, 0, rfl, (HR8.out.put (putO hWf) (Nat.le_succ _) (fun k hk => by omega)).below ((Below.refl _ _).drew), PRow.nil _ _, (HZ.out.b.trans (rb.mono (by omega))).drew⟩

set_option maxHeartbeats 6400000 in
theorem rdo_2n (a : Option Addr) (cap : Nat) (l : List Pr) (k hi v : Int) (w : World) (h : Prs w a cap l) (hl : l.length ≤ 1200000) (hs : Srt l) (hix : ixL l k = -1) :
    Calls Try.prog 14 #[.slice a l.length cap, .agg #[.int .i64 2, .int .i64 k, .int .i64 hi, .int .i64 v]] w (DoIs w (withL l k v) ⟨0, false, 0, 0, 0, []⟩) := by
  have ba : Below w.heap.size w ((w.alloc (.cells #[.int .i64 2, .int .i64 k, .int .i64 hi, .int .i64 v] 25)).alloc (.cells #[.int .i64 0, .bool false, .int .i64 0, .int .i64 0, .int .i64 0, .slice none 0 0] 34)) := ((Below.refl _ _).alloc (Nat.le_refl _) _).alloc (by simp) _
  have HA := Lib.hid (h.below ba)
  have HH := Lib.hid h
  have hcc := h.1
  have hcm := h.2.1
  unfold maxLen at hcm
  have c1 := fun W h => rmay_any a cap l W h true (decide_eq_true hs)
  have c2 := fun W => rmayop_any 2 k hi v W true (decide_eq_true (by unfold okOp; omega))
  have c3 := fun W h => rfind_any a cap l k W h
  rw [hix] at c3
  have c4 := fun W h => with_is a cap l k v W h (by omega)
  clear h hs hix
  go_enter Try.func14, Try.ntmps14
  go_wp2_with (first
    | (at_builtin; refine wpList_app rfl (.const (.slice none 0 0)) (.tmp 9) rfl (fun j => j < w.heap.size + 2) _ [] l rfl (PRow.nil _ _) rz2 _ rfl (src_any HA.out) (by simp; omega) l.length (by simp) l rfl ?_; intro ao cp w1 hm1 hc1 hR1 hO1; have H1 : Hid (RW w w1 _ k hi v l ao cp) := Lib.hid (RW.start hR1 hO1); clear hR1 hO1; unfold maxLen at hm1)
    | (go_at_call 12; ((with_reducible refine (c1 _ (HH.out.below H1.out.b)).mono ?_); clear c1; rintro e w2 ⟨rfl, hb2⟩; have H2 := Lib.hid (H1.out.keep hb2); have p0 := H2.out.p0; have p1 := H2.out.p1; have p2 := H2.out.p2; have p3 := H2.out.p3; clear hb2))
    | (go_at_call 11; ((with_reducible refine (c2 _).mono ?_); clear c2; rintro e w3 ⟨rfl, hb3⟩; have H3 := Lib.hid (H2.out.keep hb3); have a1 := cell_alloc H3.out.p1 (.cells #[.int .i64 0, .bool false, .int .i64 0, .int .i64 0, .int .i64 0, .slice none 0 0] 34); clear p0 p1 p2 p3 hb3))
    | (go_at_call 22; ((with_reducible refine (c3 _ (HH.out.below (H3.out.b.trans (((Below.refl _ _).alloc (Nat.le_refl _) _).mono H3.out.b.size)))).mono ?_); clear c3; rintro e w5 ⟨rfl, hb5⟩; have H5 := Lib.hid (H3.out.past5 hb5); have p0 := H5.out.p0; have p1 := H5.out.p1; have p2 := H5.out.p2; have p3 := H5.out.p3; have GA := Lib.hid ((AC.new w3 34).keep hb5); obtain ⟨y0, y1, y2, y3, y4, y5, g0, g1, g2, g3, g4, g5⟩ := (AC.new w3 34).keep hb5; have NG : Hid ((Value.slice ao l.length cp).ownBlock ≠ some w3.heap.size) := Lib.hid (fun e => Nat.lt_irrefl _ (H3.out.row.row.lt _ e).2); have hlt3 := H3.out.r.lt; have hne1 : ¬ w3.heap.size = w.heap.size := (by omega); have hne2 : ¬ w.heap.size = w3.heap.size := (by omega); clear hb5 a1))
    | (go_at_call 23; ((with_reducible refine (c4 _ (HH.out.below H5.out.b)).mono ?_); rintro e w8 ⟨⟨ao2, cp2, rfl, hR8, hb8⟩, _⟩; have HZ := Lib.hid (H5.out.keep hb8); have GZ := Lib.hid ((GA.out).keep hb8); have HR8 := Lib.hid (hR8.sub (S' := fun j => j < w.heap.size + 2) (fun j _ hj => Nat.lt_of_lt_of_le hj (show w.heap.size + 2 ≤ _ from H5.out.r.lt))); clear p0 p1 p2 p3 y0 y1 y2 y3 y4 y5 g0 g1 g2 g3 g4 g5 hR8 hb8; obtain ⟨p0, p1, p2, p3⟩ : _ ∧ _ ∧ _ ∧ _ := ⟨HZ.out.p0, HZ.out.p1, HZ.out.p2, HZ.out.p3⟩)))
  obtain ⟨z0, z1, z2, z3, z4, z5, f0, f1, f2, f3, f4, f5⟩ := HZ.out.r
  obtain ⟨y0, y1, y2, y3, y4, y5, g0, g1, g2, g3, g4, g5⟩ := GZ.out
  go_region_with (fail)
  all_goals
    go_wp2_with (fail)
    obtain ⟨Wf, hWf, r, rb⟩ := HZ.out.r.put 0 false 0 0 0 (.slice none 0 0)
    rw [← hWf]
    obtain ⟨r0, r1, r2, r3, r4, r5, -, -, -, -, -, -⟩ := r
    refine bodyPost_ret (v := .tuple #[.slice ao2 (withL l k v).length cp2, .agg #[.int .i64 0, .bool false, .int .i64 0, .int .i64 0, .int .i64 0, .slice none 0 0]]) (by simp [results, Try.results14, go_sem, r0, r1, r2, r3, r4, r5]) rfl ?_
    exact ⟨ao2, cp2, none, 0, rfl, (HR8.out.put (putO hWf) (Nat.le_succ _) (fun k hk => by omega)).below ((Below.refl _ _).drew), PRow.nil _ _, (HZ.out.b.trans (rb.mono (by omega))).drew⟩

set_option maxHeartbeats 6400000 in
theorem rdo_5y (a : Option Addr) (cap : Nat) (l : List Pr) (k hi v : Int) (w : World) (h : Prs w a cap l) (hl : l.length ≤ 1200000) (hs : Srt l) (n : Nat) (hix : ixL l k = n) :
    Calls Try.prog 14 #[.slice a l.length cap, .agg #[.int .i64 5, .int .i64 k, .int .i64 hi, .int .i64 v]] w (DoIs w l ⟨0, false, 0, 0, (rngL l k hi).length, rngL l k hi⟩) := by
  have ba : Below w.heap.size w ((w.alloc (.cells #[.int .i64 5, .int .i64 k, .int .i64 hi, .int .i64 v] 25)).alloc (.cells #[.int .i64 0, .bool false, .int .i64 0, .int .i64 0, .int .i64 0, .slice none 0 0] 34)) := ((Below.refl _ _).alloc (Nat.le_refl _) _).alloc (by simp) _
  have HA := Lib.hid (h.below ba)
  have HH := Lib.hid h
  have hcc := h.1
  have hcm := h.2.1
  unfold maxLen at hcm
  have c1 := fun W h => rmay_any a cap l W h true (decide_eq_true hs)
  have c2 := fun W => rmayop_any 5 k hi v W true (decide_eq_true (by unfold okOp; omega))
  have c3 := fun W h => rfind_any a cap l k W h
  rw [hix] at c3
  have hn0 : (0 : Int) ≤ (n : Int) := by omega
  have c4 := fun W h => betw_any a cap l k hi W h (by omega)
  obtain ⟨R, hR⟩ : ∃ R, rngL l k hi = R := ⟨_, rfl⟩
  rw [hR] at c4
  rw [hR]
  clear hR
  clear h hs hix
  go_enter Try.func14, Try.ntmps14
  go_wp2_with (first
    | (at_builtin; refine wpList_app rfl (.const (.slice none 0 0)) (.tmp 9) rfl (fun j => j < w.heap.size + 2) _ [] l rfl (PRow.nil _ _) rz2 _ rfl (src_any HA.out) (by simp; omega) l.length (by simp) l rfl ?_; intro ao cp w1 hm1 hc1 hR1 hO1; have H1 : Hid (RW w w1 _ k hi v l ao cp) := Lib.hid (RW.start hR1 hO1); clear hR1 hO1; unfold maxLen at hm1)
    | (go_at_call 12; ((with_reducible refine (c1 _ (HH.out.below H1.out.b)).mono ?_); clear c1; rintro e w2 ⟨rfl, hb2⟩; have H2 := Lib.hid (H1.out.keep hb2); have p0 := H2.out.p0; have p1 := H2.out.p1; have p2 := H2.out.p2; have p3 := H2.out.p3; clear hb2))
    | (go_at_call 11; ((with_reducible refine (c2 _).mono ?_); clear c2; rintro e w3 ⟨rfl, hb3⟩; have H3 := Lib.hid (H2.out.keep hb3); have a1 := cell_alloc H3.out.p1 (.cells #[.int .i64 0, .bool false, .int .i64 0, .int .i64 0, .int .i64 0, .slice none 0 0] 34); clear p0 p1 p2 p3 hb3))
    | (go_at_call 22; ((with_reducible refine (c3 _ (HH.out.below (H3.out.b.trans (((Below.refl _ _).alloc (Nat.le_refl _) _).mono H3.out.b.size)))).mono ?_); clear c3; rintro e w5 ⟨rfl, hb5⟩; have H5 := Lib.hid (H3.out.past5 hb5); have p0 := H5.out.p0; have p1 := H5.out.p1; have p2 := H5.out.p2; have p3 := H5.out.p3; have GA := Lib.hid ((AC.new w3 34).keep hb5); obtain ⟨y0, y1, y2, y3, y4, y5, g0, g1, g2, g3, g4, g5⟩ := (AC.new w3 34).keep hb5; have NG : Hid ((Value.slice ao l.length cp).ownBlock ≠ some w3.heap.size) := Lib.hid (fun e => Nat.lt_irrefl _ (H3.out.row.row.lt _ e).2); have hlt3 := H3.out.r.lt; have hne1 : ¬ w3.heap.size = w.heap.size := (by omega); have hne2 : ¬ w.heap.size = w3.heap.size := (by omega); clear hb5 a1))
    | (go_at_call 25; ((with_reducible refine (c4 _ (HH.out.below H5.out.b)).mono ?_); rintro e w8 ⟨ao2, cp2, rfl, hR8, hb8⟩; have H8 := Lib.hid (H5.out.keep hb8); have G8 := Lib.hid (GA.out.keep hb8); have LW := Lib.hid (show w3.heap.size < w5.heap.size from GA.out.lt); have LW2 := Lib.hid (show w.heap.size + 2 ≤ w5.heap.size from H5.out.r.lt); have HR8 := Lib.hid hR8; clear p0 p1 p2 p3 y0 y1 y2 y3 y4 y5 g0 g1 g2 g3 g4 g5 hR8 hb8; obtain ⟨p0, p1, p2, p3⟩ : _ ∧ _ ∧ _ ∧ _ := ⟨H8.out.p0, H8.out.p1, H8.out.p2, H8.out.p3⟩; obtain ⟨y0, y1, y2, y3, y4, y5, g0, g1, g2, g3, g4, g5⟩ := G8.out)))
  clear p0 p1 p2 p3 y0 y1 y2 y3 y4 y5 g0 g1 g2 g3 g4 g5
  have HRZ := Lib.hid (show PRow ((w8.setCell ⟨w3.heap.size, 5, none⟩ (.slice ao2 R.length cp2)).setCell ⟨w3.heap.size, 4, none⟩ (.int .i64 (R.length : Int))) (fun j => j < w.heap.size + 2) (.slice ao2 R.length cp2) R from ⟨(G8.out.rng (.slice ao2 R.length cp2) R.length).2.row HR8.out.row (fun j hj e => HR8.out.av j hj (by rw [e]; exact LW.out)), fun j hj hlt => HR8.out.av j hj (Nat.lt_of_lt_of_le hlt LW2.out)⟩)
  have GZ := Lib.hid (G8.out.rng (.slice ao2 R.length cp2) R.length).1
  have HZ := Lib.hid (H8.out.only (G8.out.rng (.slice ao2 R.length cp2) R.length).2 (by have := H3.out.r.lt; omega) NG.out)
  generalize ((w8.setCell ⟨w3.heap.size, 5, none⟩ (.slice ao2 R.length cp2)).setCell ⟨w3.heap.size, 4, none⟩ (.int .i64 (R.length : Int)) : World) = WZ at *
  obtain ⟨z0, z1, z2, z3, z4, z5, f0, f1, f2, f3, f4, f5⟩ := HZ.out.r
  obtain ⟨y0, y1, y2, y3, y4, y5, g0, g1, g2, g3, g4, g5⟩ := GZ.out
  go_region_with (fail)
  all_goals
    go_wp2_with (fail)
    obtain ⟨Wf, hWf, r, rb⟩ := HZ.out.r.put 0 false 0 0 R.length (.slice ao2 R.length cp2)
    rw [← hWf]
    obtain ⟨r0, r1, r2, r3, r4, r5, -, -, -, -, -, -⟩ := r
    refine bodyPost_ret (v := .tuple #[.slice ao l.length cp, .agg #[.int .i64 0, .bool false, .int .i64 0, .int .i64 0, .int .i64 R.length, .slice ao2 R.length cp2]]) (by simp [results, Try.results14, go_sem, r0, r1, r2, r3, r4, r5]) rfl ?_
    exact ⟨ao, cp, ao2, cp2, rfl, (HZ.out.row.put (putO hWf) (Nat.le_succ _) (fun k hk => by omega)).below ((Below.refl _ _).drew), (HRZ.out.put (putO hWf) (Nat.le_succ _) (fun k hk => by omega)).below ((Below.refl _ _).drew), (HZ.out.b.trans (rb.mono (by omega))).drew⟩

set_option maxHeartbeats 6400000 in
theorem rdo_6y (a : Option Addr) (cap : Nat) (l : List Pr) (k hi v : Int) (w : World) (h : Prs w a cap l) (hl : l.length ≤ 1200000) (hs : Srt l) (n : Nat) (hix : ixL l k = n) :
    Calls Try.prog 14 #[.slice a l.length cap, .agg #[.int .i64 6, .int .i64 k, .int .i64 hi, .int .i64 v]] w (DoIs w l ⟨0, false, 0, 0, (rngL l k hi).length, []⟩) := by
  have ba : Below w.heap.size w ((w.alloc (.cells #[.int .i64 6, .int .i64 k, .int .i64 hi, .int .i64 v] 25)).alloc (.cells #[.int .i64 0, .bool false, .int .i64 0, .int .i64 0, .int .i64 0, .slice none 0 0] 34)) := ((Below.refl _ _).alloc (Nat.le_refl _) _).alloc (by simp) _
  have HA := Lib.hid (h.below ba)
  have HH := Lib.hid h
  have hcc := h.1
  have hcm := h.2.1
  unfold maxLen at hcm
  have c1 := fun W h => rmay_any a cap l W h true (decide_eq_true hs)
  have c2 := fun W => rmayop_any 6 k hi v W true (decide_eq_true (by unfold okOp; omega))
  have c3 := fun W h => rfind_any a cap l k W h
  rw [hix] at c3
  have hn0 : (0 : Int) ≤ (n : Int) := by omega
  have c4 := fun W h => betw_any a cap l k hi W h (by omega)
  obtain ⟨R, hR⟩ : ∃ R, rngL l k hi = R := ⟨_, rfl⟩
  rw [hR] at c4
  rw [hR]
  clear hR
  clear h hs hix
  go_enter Try.func14, Try.ntmps14
  go_wp2_with (first
    | (at_builtin; refine wpList_app rfl (.const (.slice none 0 0)) (.tmp 9) rfl (fun j => j < w.heap.size + 2) _ [] l rfl (PRow.nil _ _) rz2 _ rfl (src_any HA.out) (by simp; omega) l.length (by simp) l rfl ?_; intro ao cp w1 hm1 hc1 hR1 hO1; have H1 : Hid (RW w w1 _ k hi v l ao cp) := Lib.hid (RW.start hR1 hO1); clear hR1 hO1; unfold maxLen at hm1)
    | (go_at_call 12; ((with_reducible refine (c1 _ (HH.out.below H1.out.b)).mono ?_); clear c1; rintro e w2 ⟨rfl, hb2⟩; have H2 := Lib.hid (H1.out.keep hb2); have p0 := H2.out.p0; have p1 := H2.out.p1; have p2 := H2.out.p2; have p3 := H2.out.p3; clear hb2))
    | (go_at_call 11; ((with_reducible refine (c2 _).mono ?_); clear c2; rintro e w3 ⟨rfl, hb3⟩; have H3 := Lib.hid (H2.out.keep hb3); have a1 := cell_alloc H3.out.p1 (.cells #[.int .i64 0, .bool false, .int .i64 0, .int .i64 0, .int .i64 0, .slice none 0 0] 34); clear p0 p1 p2 p3 hb3))
    | (go_at_call 22; ((with_reducible refine (c3 _ (HH.out.below (H3.out.b.trans (((Below.refl _ _).alloc (Nat.le_refl _) _).mono H3.out.b.size)))).mono ?_); clear c3; rintro e w5 ⟨rfl, hb5⟩; have H5 := Lib.hid (H3.out.past5 hb5); have p0 := H5.out.p0; have p1 := H5.out.p1; have p2 := H5.out.p2; have p3 := H5.out.p3; have GA := Lib.hid ((AC.new w3 34).keep hb5); obtain ⟨y0, y1, y2, y3, y4, y5, g0, g1, g2, g3, g4, g5⟩ := (AC.new w3 34).keep hb5; have NG : Hid ((Value.slice ao l.length cp).ownBlock ≠ some w3.heap.size) := Lib.hid (fun e => Nat.lt_irrefl _ (H3.out.row.row.lt _ e).2); have hlt3 := H3.out.r.lt; have hne1 : ¬ w3.heap.size = w.heap.size := (by omega); have hne2 : ¬ w.heap.size = w3.heap.size := (by omega); clear hb5 a1))
    | (go_at_call 25; ((with_reducible refine (c4 _ (HH.out.below H5.out.b)).mono ?_); rintro e w8 ⟨ao2, cp2, rfl, hR8, hb8⟩; have H8 := Lib.hid (H5.out.keep hb8); have G8 := Lib.hid (GA.out.keep hb8); have LW := Lib.hid (show w3.heap.size < w5.heap.size from GA.out.lt); have LW2 := Lib.hid (show w.heap.size + 2 ≤ w5.heap.size from H5.out.r.lt); have HR8 := Lib.hid hR8; clear p0 p1 p2 p3 y0 y1 y2 y3 y4 y5 g0 g1 g2 g3 g4 g5 hR8 hb8; obtain ⟨p0, p1, p2, p3⟩ : _ ∧ _ ∧ _ ∧ _ := ⟨H8.out.p0, H8.out.p1, H8.out.p2, H8.out.p3⟩; obtain ⟨y0, y1, y2, y3, y4, y5, g0, g1, g2, g3, g4, g5⟩ := G8.out)))
  clear p0 p1 p2 p3 y0 y1 y2 y3 y4 y5 g0 g1 g2 g3 g4 g5
  have GZ := Lib.hid (G8.out.cnt R.length).1
  have HZ := Lib.hid (H8.out.only (G8.out.cnt R.length).2 (by have := H3.out.r.lt; omega) NG.out)
  generalize (w8.setCell ⟨w3.heap.size, 4, none⟩ (.int .i64 (R.length : Int)) : World) = WZ at *
  obtain ⟨z0, z1, z2, z3, z4, z5, f0, f1, f2, f3, f4, f5⟩ := HZ.out.r
  obtain ⟨y0, y1, y2, y3, y4, y5, g0, g1, g2, g3, g4, g5⟩ := GZ.out
  go_region_with (fail)
  all_goals
    go_wp2_with (fail)
    obtain ⟨Wf, hWf, r, rb⟩ := HZ.out.r.put 0 false 0 0 R.length (.slice none 0 0)
    rw [← hWf]
    obtain ⟨r0, r1, r2, r3, r4, r5, -, -, -, -, -, -⟩ := r
    refine bodyPost_ret (v := .tuple #[.slice ao l.length cp, .agg #[.int .i64 0, .bool false, .int .i64 0, .int .i64 0, .int .i64 R.length, .slice none 0 0]]) (by simp [results, Try.results14, go_sem, r0, r1, r2, r3, r4, r5]) rfl ?_
    exact ⟨ao, cp, none, 0, rfl, (HZ.out.row.put (putO hWf) (Nat.le_succ _) (fun k hk => by omega)).below ((Below.refl _ _).drew), PRow.nil _ _, (HZ.out.b.trans (rb.mono (by omega))).drew⟩

set_option maxHeartbeats 6400000 in
theorem rdo_70y (a : Option Addr) (cap : Nat) (l : List Pr) (k hi v : Int) (w : World) (h : Prs w a cap l) (hl : l.length ≤ 1200000) (hs : Srt l) (n : Nat) (hix : ixL l k = n) (hn : l.length = 0) :
    Calls Try.prog 14 #[.slice a l.length cap, .agg #[.int .i64 7, .int .i64 k, .int .i64 hi, .int .i64 v]] w (DoIs w l ⟨0, false, 0, 0, 0, []⟩) := by
  have ba : Below w.heap.size w ((w.alloc (.cells #[.int .i64 7, .int .i64 k, .int .i64 hi, .int .i64 v] 25)).alloc (.cells #[.int .i64 0, .bool false, .int .i64 0, .int .i64 0, .int .i64 0, .slice none 0 0] 34)) := ((Below.refl _ _).alloc (Nat.le_refl _) _).alloc (by simp) _
  have HA := Lib.hid (h.below ba)
  have HH := Lib.hid h
  have hcc := h.1
  have hcm := h.2.1
  unfold maxLen at hcm
  have c1 := fun W h => rmay_any a cap l W h true (decide_eq_true hs)
  have c2 := fun W => rmayop_any 7 k hi v W true (decide_eq_true (by unfold okOp; omega))
  have c3 := fun W h => rfind_any a cap l k W h
  rw [hix] at c3
  have hn0 : (0 : Int) ≤ (n : Int) := by omega
  have hn' : ¬ (0 : Int) < (l.length : Int) := by omega
  clear hn
  clear h hs hix
  go_enter Try.func14, Try.ntmps14
  go_wp2_with (first
    | (at_builtin; refine wpList_app rfl (.const (.slice none 0 0)) (.tmp 9) rfl (fun j => j < w.heap.size + 2) _ [] l rfl (PRow.nil _ _) rz2 _ rfl (src_any HA.out) (by simp; omega) l.length (by simp) l rfl ?_; intro ao cp w1 hm1 hc1 hR1 hO1; have H1 : Hid (RW w w1 _ k hi v l ao cp) := Lib.hid (RW.start hR1 hO1); clear hR1 hO1; unfold maxLen at hm1)
    | (go_at_call 12; ((with_reducible refine (c1 _ (HH.out.below H1.out.b)).mono ?_); clear c1; rintro e w2 ⟨rfl, hb2⟩; have H2 := Lib.hid (H1.out.keep hb2); have p0 := H2.out.p0; have p1 := H2.out.p1; have p2 := H2.out.p2; have p3 := H2.out.p3; clear hb2))
    | (go_at_call 11; ((with_reducible refine (c2 _).mono ?_); clear c2; rintro e w3 ⟨rfl, hb3⟩; have H3 := Lib.hid (H2.out.keep hb3); have a1 := cell_alloc H3.out.p1 (.cells #[.int .i64 0, .bool false, .int .i64 0, .int .i64 0, .int .i64 0, .slice none 0 0] 34); clear p0 p1 p2 p3 hb3))
    | (go_at_call 22; ((with_reducible refine (c3 _ (HH.out.below (H3.out.b.trans (((Below.refl _ _).alloc (Nat.le_refl _) _).mono H3.out.b.size)))).mono ?_); clear c3; rintro e w5 ⟨rfl, hb5⟩; have H5 := Lib.hid (H3.out.past5 hb5); have p0 := H5.out.p0; have p1 := H5.out.p1; have p2 := H5.out.p2; have p3 := H5.out.p3; have GA := Lib.hid ((AC.new w3 34).keep hb5); obtain ⟨y0, y1, y2, y3, y4, y5, g0, g1, g2, g3, g4, g5⟩ := (AC.new w3 34).keep hb5; have NG : Hid ((Value.slice ao l.length cp).ownBlock ≠ some w3.heap.size) := Lib.hid (fun e => Nat.lt_irrefl _ (H3.out.row.row.lt _ e).2); have hlt3 := H3.out.r.lt; have hne1 : ¬ w3.heap.size = w.heap.size := (by omega); have hne2 : ¬ w.heap.size = w3.heap.size := (by omega); clear hb5 a1)))
  clear p0 p1 p2 p3 y0 y1 y2 y3 y4 y5 g0 g1 g2 g3 g4 g5
  have GZ := GA
  have HZ := H5
  obtain ⟨z0, z1, z2, z3, z4, z5, f0, f1, f2, f3, f4, f5⟩ := HZ.out.r
  obtain ⟨y0, y1, y2, y3, y4, y5, g0, g1, g2, g3, g4, g5⟩ := GZ.out
  go_region_with (fail)
  all_goals
    go_wp2_with (fail)
    obtain ⟨Wf, hWf, r, rb⟩ := HZ.out.r.put 0 false 0 0 0 (.slice none 0 0)
    rw [← hWf]
    obtain ⟨r0, r1, r2, r3, r4, r5, -, -, -, -, -, -⟩ := r
    refine bodyPost_ret (v := .tuple #[.slice ao l.length cp, .agg #[.int .i64 0, .bool false, .int .i64 0, .int .i64 0, .int .i64 0, .slice none 0 0]]) (by simp [results, Try.results14, go_sem, r0, r1, r2, r3, r4, r5]) rfl ?_
    exact ⟨ao, cp, none, 0, rfl, (HZ.out.row.put (putO hWf) (Nat.le_succ _) (fun k hk => by omega)).below ((Below.refl _ _).drew), PRow.nil _ _, (HZ.out.b.trans (rb.mono (by omega))).drew⟩

set_option maxHeartbeats 6400000 in
theorem rdo_7y (a : Option Addr) (cap : Nat) (l : List Pr) (k hi v : Int) (w : World) (h : Prs w a cap l) (hl : l.length ≤ 1200000) (hs : Srt l) (n : Nat) (hix : ixL l k = n) (q : Pr) (hq : l[0]? = some q) :
    Calls Try.prog 14 #[.slice a l.length cap, .agg #[.int .i64 7, .int .i64 k, .int .i64 hi, .int .i64 v]] w (DoIs w l ⟨0, true, q.1, q.2, 0, []⟩) := by
  have ba : Below w.heap.size w ((w.alloc (.cells #[.int .i64 7, .int .i64 k, .int .i64 hi, .int .i64 v] 25)).alloc (.cells #[.int .i64 0, .bool false, .int .i64 0, .int .i64 0, .int .i64 0, .slice none 0 0] 34)) := ((Below.refl _ _).alloc (Nat.le_refl _) _).alloc (by simp) _
  have HA := Lib.hid (h.below ba)
  have HH := Lib.hid h
  have hcc := h.1
  have hcm := h.2.1
  unfold maxLen at hcm
  have c1 := fun W h => rmay_any a cap l W h true (decide_eq_true hs)
  have c2 := fun W => rmayop_any 7 k hi v W true (decide_eq_true (by unfold okOp; omega))
  have c3 := fun W h => rfind_any a cap l k W h
  rw [hix] at c3
  have hn0 : (0 : Int) ≤ (n : Int) := by omega
  have hlt := (List.getElem?_eq_some_iff.1 hq).1
  have hi0 : (0 : Int) < (l.length : Int) := by omega
  obtain ⟨q0, q1⟩ := q
  obtain ⟨pb, po, rfl, e0, e1⟩ := h.2.2.1 0 _ hq
  dsimp only at e0 e1 ⊢
  rw [Nat.zero_mul, Nat.add_zero] at e0 e1
  have HQ := Lib.hid (And.intro e0 e1)
  clear hq e0 e1 hlt
  clear h hs hix
  go_enter Try.func14, Try.ntmps14
  go_wp2_with (first
    | (at_builtin; refine wpList_app rfl (.const (.slice none 0 0)) (.tmp 9) rfl (fun j => j < w.heap.size + 2) _ [] l rfl (PRow.nil _ _) rz2 _ rfl (src_any HA.out) (by simp; omega) l.length (by simp) l rfl ?_; intro ao cp w1 hm1 hc1 hR1 hO1; have H1 : Hid (RW w w1 _ k hi v l ao cp) := Lib.hid (RW.start hR1 hO1); clear hR1 hO1; unfold maxLen at hm1)
    | (go_at_call 12; ((with_reducible refine (c1 _ (HH.out.below H1.out.b)).mono ?_); clear c1; rintro e w2 ⟨rfl, hb2⟩; have H2 := Lib.hid (H1.out.keep hb2); have p0 := H2.out.p0; have p1 := H2.out.p1; have p2 := H2.out.p2; have p3 := H2.out.p3; clear hb2))
    | (go_at_call 11; ((with_reducible refine (c2 _).mono ?_); clear c2; rintro e w3 ⟨rfl, hb3⟩; have H3 := Lib.hid (H2.out.keep hb3); have a1 := cell_alloc H3.out.p1 (.cells #[.int .i64 0, .bool false, .int .i64 0, .int .i64 0, .int .i64 0, .slice none 0 0] 34); clear p0 p1 p2 p3 hb3))
    | (go_at_call 22; ((with_reducible refine (c3 _ (HH.out.below (H3.out.b.trans (((Below.refl _ _).alloc (Nat.le_refl _) _).mono H3.out.b.size)))).mono ?_); clear c3; rintro e w5 ⟨rfl, hb5⟩; have H5 := Lib.hid (H3.out.past5 hb5); have p0 := H5.out.p0; have p1 := H5.out.p1; have p2 := H5.out.p2; have p3 := H5.out.p3; have GA := Lib.hid ((AC.new w3 34).keep hb5); obtain ⟨y0, y1, y2, y3, y4, y5, g0, g1, g2, g3, g4, g5⟩ := (AC.new w3 34).keep hb5; have NG : Hid ((Value.slice ao l.length cp).ownBlock ≠ some w3.heap.size) := Lib.hid (fun e => Nat.lt_irrefl _ (H3.out.row.row.lt _ e).2); have hlt3 := H3.out.r.lt; have hne1 : ¬ w3.heap.size = w.heap.size := (by omega); have hne2 : ¬ w.heap.size = w3.heap.size := (by omega); have e0 := cell_keep HQ.out.1 H5.out.b; have e1 := cell_keep HQ.out.2 H5.out.b; clear hb5 a1)))
  clear p0 p1 p2 p3 y0 y1 y2 y3 y4 y5 g0 g1 g2 g3 g4 g5
  have GZ := Lib.hid (GA.out.found q0 q1).1
  have HZ := Lib.hid (H5.out.only (GA.out.found q0 q1).2 (by have := H3.out.r.lt; omega) NG.out)
  generalize (((w5.setCell ⟨w3.heap.size, 2, none⟩ (.int .i64 q0)).setCell ⟨w3.heap.size, 3, none⟩ (.int .i64 q1)).setCell ⟨w3.heap.size, 1, none⟩ (.bool true) : World) = WZ at *
  obtain ⟨z0, z1, z2, z3, z4, z5, f0, f1, f2, f3, f4, f5⟩ := HZ.out.r
  obtain ⟨y0, y1, y2, y3, y4, y5, g0, g1, g2, g3, g4, g5⟩ := GZ.out
  go_region_with (fail)
  all_goals
    go_wp2_with (fail)
    obtain ⟨Wf, hWf, r, rb⟩ := HZ.out.r.put 0 true q0 q1 0 (.slice none 0 0)
    rw [← hWf]
    obtain ⟨r0, r1, r2, r3, r4, r5, -, -, -, -, -, -⟩ := r
    refine bodyPost_ret (v := .tuple #[.slice ao l.length cp, .agg #[.int .i64 0, .bool true, .int .i64 q0, .int .i64 q1, .int .i64 0, .slice none 0 0]]) (by simp [results, Try.results14, go_sem, r0, r1, r2, r3, r4, r5]) rfl ?_
    exact ⟨ao, cp, none, 0, rfl, (HZ.out.row.put (putO hWf) (Nat.le_succ _) (fun k hk => by omega)).below ((Below.refl _ _).drew), PRow.nil _ _, (HZ.out.b.trans (rb.mono (by omega))).drew⟩

set_option maxHeartbeats 6400000 in
theorem rdo_80y (a : Option Addr) (cap : Nat) (l : List Pr) (k hi v : Int) (w : World) (h : Prs w a cap l) (hl : l.length ≤ 1200000) (hs : Srt l) (n : Nat) (hix : ixL l k = n) (hn : l.length = 0) :
    Calls Try.prog 14 #[.slice a l.length cap, .agg #[.int .i64 8, .int .i64 k, .int .i64 hi, .int .i64 v]] w (DoIs w l ⟨0, false, 0, 0, 0, []⟩) := by
  have ba : Below w.heap.size w ((w.alloc (.cells #[.int .i64 8, .int .i64 k, .int .i64 hi, .int .i64 v] 25)).alloc (.cells #[.int .i64 0, .bool false, .int .i64 0, .int .i64 0, .int .i64 0, .slice none 0 0] 34)) := ((Below.refl _ _).alloc (Nat.le_refl _) _).alloc (by simp) _
  have HA := Lib.hid (h.below ba)
  have HH := Lib.hid h
  have hcc := h.1
  have hcm := h.2.1
  unfold maxLen at hcm
  have c1 := fun W h => rmay_any a cap l W h true (decide_eq_true hs)
  have c2 := fun W => rmayop_any 8 k hi v W true (decide_eq_true (by unfold okOp; omega))
  have c3 := fun W h => rfind_any a cap l k W h
  rw [hix] at c3
  have hn0 : (0 : Int) ≤ (n : Int) := by omega
  have hn' : ¬ (0 : Int) < (l.length : Int) := by omega
  clear hn
  clear h hs hix
  go_enter Try.func14, Try.ntmps14
  go_wp2_with (first
    | (at_builtin; refine wpList_app rfl (.const (.slice none 0 0)) (.tmp 9) rfl (fun j => j < w.heap.size + 2) _ [] l rfl (PRow.nil _ _) rz2 _ rfl (src_any HA.out) (by simp; omega) l.length (by simp) l rfl ?_; intro ao cp w1 hm1 hc1 hR1 hO1; have H1 : Hid (RW w w1 _ k hi v l ao cp) := Lib.hid (RW.start hR1 hO1); clear hR1 hO1; unfold maxLen at hm1)
    | (go_at_call 12; ((with_reducible refine (c1 _ (HH.out.below H1.out.b)).mono ?_); clear c1; rintro e w2 ⟨rfl, hb2⟩; have H2 := Lib.hid (H1.out.keep hb2); have p0 := H2.out.p0; have p1 := H2.out.p1; have p2 := H2.out.p2; have p3 := H2.out.p3; clear hb2))
    | (go_at_call 11; ((with_reducible refine (c2 _).mono ?_); clear c2; rintro e w3 ⟨rfl, hb3⟩; have H3 := Lib.hid (H2.out.keep hb3); have a1 := cell_alloc H3.out.p1 (.cells #[.int .i64 0, .bool false, .int .i64 0, .int .i64 0, .int .i64 0, .slice none 0 0] 34); clear p0 p1 p2 p3 hb3))
    | (go_at_call 22; ((with_reducible refine (c3 _ (HH.out.below (H3.out.b.trans (((Below.refl _ _).alloc (Nat.le_refl _) _).mono H3.out.b.size)))).mono ?_); clear c3; rintro e w5 ⟨rfl, hb5⟩; have H5 := Lib.hid (H3.out.past5 hb5); have p0 := H5.out.p0; have p1 := H5.out.p1; have p2 := H5.out.p2; have p3 := H5.out.p3; have GA := Lib.hid ((AC.new w3 34).keep hb5); obtain ⟨y0, y1, y2, y3, y4, y5, g0, g1, g2, g3, g4, g5⟩ := (AC.new w3 34).keep hb5; have NG : Hid ((Value.slice ao l.length cp).ownBlock ≠ some w3.heap.size) := Lib.hid (fun e => Nat.lt_irrefl _ (H3.out.row.row.lt _ e).2); have hlt3 := H3.out.r.lt; have hne1 : ¬ w3.heap.size = w.heap.size := (by omega); have hne2 : ¬ w.heap.size = w3.heap.size := (by omega); clear hb5 a1)))
  clear p0 p1 p2 p3 y0 y1 y2 y3 y4 y5 g0 g1 g2 g3 g4 g5
  have GZ := GA
  have HZ := H5
  obtain ⟨z0, z1, z2, z3, z4, z5, f0, f1, f2, f3, f4, f5⟩ := HZ.out.r
  obtain ⟨y0, y1, y2, y3, y4, y5, g0, g1, g2, g3, g4, g5⟩ := GZ.out
  go_region_with (fail)
  all_goals
    go_wp2_with (fail)
    obtain ⟨Wf, hWf, r, rb⟩ := HZ.out.r.put 0 false 0 0 0 (.slice none 0 0)
    rw [← hWf]
    obtain ⟨r0, r1, r2, r3, r4, r5, -, -, -, -, -, -⟩ := r
    refine bodyPost_ret (v := .tuple #[.slice ao l.length cp, .agg #[.int .i64 0, .bool false, .int .i64 0, .int .i64 0, .int .i64 0, .slice none 0 0]]) (by simp [results, Try.results14, go_sem, r0, r1, r2, r3, r4, r5]) rfl ?_
    exact ⟨ao, cp, none, 0, rfl, (HZ.out.row.put (putO hWf) (Nat.le_succ _) (fun k hk => by omega)).below ((Below.refl _ _).drew), PRow.nil _ _, (HZ.out.b.trans (rb.mono (by omega))).drew⟩

set_option maxHeartbeats 6400000 in
theorem rdo_8y (a : Option Addr) (cap : Nat) (l : List Pr) (k hi v : Int) (w : World) (h : Prs w a cap l) (hl : l.length ≤ 1200000) (hs : Srt l) (n : Nat) (hix : ixL l k = n) (q : Pr) (hq : l[(l.length - 1)]? = some q) :
    Calls Try.prog 14 #[.slice a l.length cap, .agg #[.int .i64 8, .int .i64 k, .int .i64 hi, .int .i64 v]] w (DoIs w l ⟨0, true, q.1, q.2, 0, []⟩) := by
  have ba : Below w.heap.size w ((w.alloc (.cells #[.int .i64 8, .int .i64 k, .int .i64 hi, .int .i64 v] 25)).alloc (.cells #[.int .i64 0, .bool false, .int .i64 0, .int .i64 0, .int .i64 0, .slice none 0 0] 34)) := ((Below.refl _ _).alloc (Nat.le_refl _) _).alloc (by simp) _
  have HA := Lib.hid (h.below ba)
  have HH := Lib.hid h
  have hcc := h.1
  have hcm := h.2.1
  unfold maxLen at hcm
  have c1 := fun W h => rmay_any a cap l W h true (decide_eq_true hs)
  have c2 := fun W => rmayop_any 8 k hi v W true (decide_eq_true (by unfold okOp; omega))
  have c3 := fun W h => rfind_any a cap l k W h
  rw [hix] at c3
  have hn0 : (0 : Int) ≤ (n : Int) := by omega
  have hlt := (List.getElem?_eq_some_iff.1 hq).1
  have hi0 : (0 : Int) < (l.length : Int) := by omega
  obtain ⟨q0, q1⟩ := q
  obtain ⟨pb, po, rfl, e0, e1⟩ := h.2.2.1 (l.length - 1) _ hq
  dsimp only at e0 e1 ⊢
  have HQ := Lib.hid (And.intro e0 e1)
  clear hq e0 e1 hlt
  clear h hs hix
  go_enter Try.func14, Try.ntmps14
  go_wp2_with (first
    | (at_builtin; refine wpList_app rfl (.const (.slice none 0 0)) (.tmp 9) rfl (fun j => j < w.heap.size + 2) _ [] l rfl (PRow.nil _ _) rz2 _ rfl (src_any HA.out) (by simp; omega) l.length (by simp) l rfl ?_; intro ao cp w1 hm1 hc1 hR1 hO1; have H1 : Hid (RW w w1 _ k hi v l ao cp) := Lib.hid (RW.start hR1 hO1); clear hR1 hO1; unfold maxLen at hm1)
    | (go_at_call 12; ((with_reducible refine (c1 _ (HH.out.below H1.out.b)).mono ?_); clear c1; rintro e w2 ⟨rfl, hb2⟩; have H2 := Lib.hid (H1.out.keep hb2); have p0 := H2.out.p0; have p1 := H2.out.p1; have p2 := H2.out.p2; have p3 := H2.out.p3; clear hb2))
    | (go_at_call 11; ((with_reducible refine (c2 _).mono ?_); clear c2; rintro e w3 ⟨rfl, hb3⟩; have H3 := Lib.hid (H2.out.keep hb3); have a1 := cell_alloc H3.out.p1 (.cells #[.int .i64 0, .bool false, .int .i64 0, .int .i64 0, .int .i64 0, .slice none 0 0] 34); clear p0 p1 p2 p3 hb3))
    | (go_at_call 22; ((with_reducible refine (c3 _ (HH.out.below (H3.out.b.trans (((Below.refl _ _).alloc (Nat.le_refl _) _).mono H3.out.b.size)))).mono ?_); clear c3; rintro e w5 ⟨rfl, hb5⟩; have H5 := Lib.hid (H3.out.past5 hb5); have p0 := H5.out.p0; have p1 := H5.out.p1; have p2 := H5.out.p2; have p3 := H5.out.p3; have GA := Lib.hid ((AC.new w3 34).keep hb5); obtain ⟨y0, y1, y2, y3, y4, y5, g0, g1, g2, g3, g4, g5⟩ := (AC.new w3 34).keep hb5; have NG : Hid ((Value.slice ao l.length cp).ownBlock ≠ some w3.heap.size) := Lib.hid (fun e => Nat.lt_irrefl _ (H3.out.row.row.lt _ e).2); have hlt3 := H3.out.r.lt; have hne1 : ¬ w3.heap.size = w.heap.size := (by omega); have hne2 : ¬ w.heap.size = w3.heap.size := (by omega); have e0 := cell_keep HQ.out.1 H5.out.b; have e1 := cell_keep HQ.out.2 H5.out.b; clear hb5 a1)))
  clear p0 p1 p2 p3 y0 y1 y2 y3 y4 y5 g0 g1 g2 g3 g4 g5
  have GZ := Lib.hid (GA.out.found q0 q1).1
  have HZ := Lib.hid (H5.out.only (GA.out.found q0 q1).2 (by have := H3.out.r.lt; omega) NG.out)
  generalize (((w5.setCell ⟨w3.heap.size, 2, none⟩ (.int .i64 q0)).setCell ⟨w3.heap.size, 3, none⟩ (.int .i64 q1)).setCell ⟨w3.heap.size, 1, none⟩ (.bool true) : World) = WZ at *
  obtain ⟨z0, z1, z2, z3, z4, z5, f0, f1, f2, f3, f4, f5⟩ := HZ.out.r
  obtain ⟨y0, y1, y2, y3, y4, y5, g0, g1, g2, g3, g4, g5⟩ := GZ.out
  go_region_with (fail)
  all_goals
    go_wp2_with (fail)
    obtain ⟨Wf, hWf, r, rb⟩ := HZ.out.r.put 0 true q0 q1 0 (.slice none 0 0)
    rw [← hWf]
    obtain ⟨r0, r1, r2, r3, r4, r5, -, -, -, -, -, -⟩ := r
    refine bodyPost_ret (v := .tuple #[.slice ao l.length cp, .agg #[.int .i64 0, .bool true, .int .i64 q0, .int .i64 q1, .int .i64 0, .slice none 0 0]]) (by simp [results, Try.results14, go_sem, r0, r1, r2, r3, r4, r5]) rfl ?_
    exact ⟨ao, cp, none, 0, rfl, (HZ.out.row.put (putO hWf) (Nat.le_succ _) (fun k hk => by omega)).below ((Below.refl _ _).drew), PRow.nil _ _, (HZ.out.b.trans (rb.mono (by omega))).drew⟩

set_option maxHeartbeats 6400000 in
theorem rdo_5n (a : Option Addr) (cap : Nat) (l : List Pr) (k hi v : Int) (w : World) (h : Prs w a cap l) (hl : l.length ≤ 1200000) (hs : Srt l) (hix : ixL l k = -1) :
    Calls Try.prog 14 #[.slice a l.length cap, .agg #[.int .i64 5, .int .i64 k, .int .i64 hi, .int .i64 v]] w (DoIs w l ⟨0, false, 0, 0, (rngL l k hi).length, rngL l k hi⟩) := by
  have ba : Below w.heap.size w ((w.alloc (.cells #[.int .i64 5, .int .i64 k, .int .i64 hi, .int .i64 v] 25)).alloc (.cells #[.int .i64 0, .bool false, .int .i64 0, .int .i64 0, .int .i64 0, .slice none 0 0] 34)) := ((Below.refl _ _).alloc (Nat.le_refl _) _).alloc (by simp) _
  have HA := Lib.hid (h.below ba)
  have HH := Lib.hid h
  have hcc := h.1
  have hcm := h.2.1
  unfold maxLen at hcm
  have c1 := fun W h => rmay_any a cap l W h true (decide_eq_true hs)
  have c2 := fun W => rmayop_any 5 k hi v W true (decide_eq_true (by unfold okOp; omega))
  have c3 := fun W h => rfind_any a cap l k W h
  rw [hix] at c3
  have c4 := fun W h => betw_any a cap l k hi W h (by omega)
  obtain ⟨R, hR⟩ : ∃ R, rngL l k hi = R := ⟨_, rfl⟩
  rw [hR] at c4
  rw [hR]
  clear hR
  clear h hs hix
  go_enter Try.func14, Try.ntmps14
  go_wp2_with (first
    | (at_builtin; refine wpList_app rfl (.const (.slice none 0 0)) (.tmp 9) rfl (fun j => j < w.heap.size + 2) _ [] l rfl (PRow.nil _ _) rz2 _ rfl (src_any HA.out) (by simp; omega) l.length (by simp) l rfl ?_; intro ao cp w1 hm1 hc1 hR1 hO1; have H1 : Hid (RW w w1 _ k hi v l ao cp) := Lib.hid (RW.start hR1 hO1); clear hR1 hO1; unfold maxLen at hm1)
    | (go_at_call 12; ((with_reducible refine (c1 _ (HH.out.below H1.out.b)).mono ?_); clear c1; rintro e w2 ⟨rfl, hb2⟩; have H2 := Lib.hid (H1.out.keep hb2); have p0 := H2.out.p0; have p1 := H2.out.p1; have p2 := H2.out.p2; have p3 := H2.out.p3; clear hb2))
    | (go_at_call 11; ((with_reducible refine (c2 _).mono ?_); clear c2; rintro e w3 ⟨rfl, hb3⟩; have H3 := Lib.hid (H2.out.keep hb3); have a1 := cell_alloc H3.out.p1 (.cells #[.int .i64 0, .bool false, .int .i64 0, .int .i64 0, .int .i64 0, .slice none 0 0] 34); clear p0 p1 p2 p3 hb3))
    | (go_at_call 22; ((with_reducible refine (c3 _ (HH.out.below (H3.out.b.trans (((Below.refl _ _).alloc (Nat.le_refl _) _).mono H3.out.b.size)))).mono ?_); clear c3; rintro e w5 ⟨rfl, hb5⟩; have H5 := Lib.hid (H3.out.past5 hb5); have p0 := H5.out.p0; have p1 := H5.out.p1; have p2 := H5.out.p2; have p3 := H5.out.p3; have GA := Lib.hid ((AC.new w3 34).keep hb5); obtain ⟨y0, y1, y2, y3, y4, y5, g0, g1, g2, g3, g4, g5⟩ := (AC.new w3 34).keep hb5; have NG : Hid ((Value.slice ao l.length cp).ownBlock ≠ some w3.heap.size) := Lib.hid (fun e => Nat.lt_irrefl _ (H3.out.row.row.lt _ e).2); have hlt3 := H3.out.r.lt; have hne1 : ¬ w3.heap.size = w.heap.size := (by omega); have hne2 : ¬ w.heap.size = w3.heap.size := (by omega); clear hb5 a1))
    | (go_at_call 25; ((with_reducible refine (c4 _ (HH.out.below H5.out.b)).mono ?_); rintro e w8 ⟨ao2, cp2, rfl, hR8, hb8⟩; have H8 := Lib.hid (H5.out.keep hb8); have G8 := Lib.hid (GA.out.keep hb8); have LW := Lib.hid (show w3.heap.size < w5.heap.size from GA.out.lt); have LW2 := Lib.hid (show w.heap.size + 2 ≤ w5.heap.size from H5.out.r.lt); have HR8 := Lib.hid hR8; clear p0 p1 p2 p3 y0 y1 y2 y3 y4 y5 g0 g1 g2 g3 g4 g5 hR8 hb8; obtain ⟨p0, p1, p2, p3⟩ : _ ∧ _ ∧ _ ∧ _ := ⟨H8.out.p0, H8.out.p1, H8.out.p2, H8.out.p3⟩; obtain ⟨y0, y1, y2, y3, y4, y5, g0, g1, g2, g3, g4, g5⟩ := G8.out)))
  clear p0 p1 p2 p3 y0 y1 y2 y3 y4 y5 g0 g1 g2 g3 g4 g5
  have HRZ := Lib.hid (show PRow ((w8.setCell ⟨w3.heap.size, 5, none⟩ (.slice ao2 R.length cp2)).setCell ⟨w3.heap.size, 4, none⟩ (.int .i64 (R.length : Int))) (fun j => j < w.heap.size + 2) (.slice ao2 R.length cp2) R from ⟨(G8.out.rng (.slice ao2 R.length cp2) R.length).2.row HR8.out.row (fun j hj e => HR8.out.av j hj (by rw [e]; exact LW.out)), fun j hj hlt => HR8.out.av j hj (Nat.lt_of_lt_of_le hlt LW2.out)⟩)
  have GZ := Lib.hid (G8.out.rng (.slice ao2 R.length cp2) R.length).1
  have HZ := Lib.hid (H8.out.only (G8.out.rng (.slice ao2 R.length cp2) R.length).2 (by have := H3.out.r.lt; omega) NG.out)
  generalize ((w8.setCell ⟨w3.heap.size, 5, none⟩ (.slice ao2 R.length cp2)).setCell ⟨w3.heap.size, 4, none⟩ (.int .i64 (R.length : Int)) : World) = WZ at *
  obtain ⟨z0, z1, z2, z3, z4, z5, f0, f1, f2, f3, f4, f5⟩ := HZ.out.r
  obtain ⟨y0, y1, y2, y3, y4, y5, g0, g1, g2, g3, g4, g5⟩ := GZ.out
  go_region_with (fail)
  all_goals
    go_wp2_with (fail)
    obtain ⟨Wf, hWf, r, rb⟩ := HZ.out.r.put 0 false 0 0 R.length (.slice ao2 R.length cp2)
    rw [← hWf]
    obtain ⟨r0, r1, r2, r3, r4, r5, -, -, -, -, -, -⟩ := r
    refine bodyPost_ret (v := .tuple #[.slice ao l.length cp, .agg #[.int .i64 0, .bool false, .int .i64 0, .int .i64 0, .int .i64 R.length, .slice ao2 R.length cp2]]) (by simp [results, Try.results14, go_sem, r0, r1, r2, r3, r4, r5]) rfl ?_
    exact ⟨ao, cp, ao2, cp2, rfl, (HZ.out.row.put (putO hWf) (Nat.le_succ _) (fun k hk => by omega)).below ((Below.refl _ _).drew), (HRZ.out.put (putO hWf) (Nat.le_succ _) (fun k hk => by omega)).below ((Below.refl _ _).drew), (HZ.out.b.trans (rb.mono (by omega))).drew⟩

set_option maxHeartbeats 6400000 in
theorem rdo_6n (a : Option Addr) (cap : Nat) (l : List Pr) (k hi v : Int) (w : World) (h : Prs w a cap l) (hl : l.length ≤ 1200000) (hs : Srt l) (hix : ixL l k = -1) :
    Calls Try.prog 14 #[.slice a l.length cap, .agg #[.int .i64 6, .int .i64 k, .int .i64 hi, .int .i64 v]] w (DoIs w l ⟨0, false, 0, 0, (rngL l k hi).length, []⟩) := by
  have ba : Below w.heap.size w ((w.alloc (.cells #[.int .i64 6, .int .i64 k, .int .i64 hi, .int .i64 v] 25)).alloc (.cells #[.int .i64 0, .bool false, .int .i64 0, .int .i64 0, .int .i64 0, .slice none 0 0] 34)) := ((Below.refl _ _).alloc (Nat.le_refl _) _).alloc (by simp) _
  have HA := Lib.hid (h.below ba)
  have HH := Lib.hid h
  have hcc := h.1
  have hcm := h.2.1
  unfold maxLen at hcm
  have c1 := fun W h => rmay_any a cap l W h true (decide_eq_true hs)
  have c2 := fun W => rmayop_any 6 k hi v W true (decide_eq_true (by unfold okOp; omega))
  have c3 := fun W h => rfind_any a cap l k W h
  rw [hix] at c3
  have c4 := fun W h => betw_any a cap l k hi W h (by omega)
  obtain ⟨R, hR⟩ : ∃ R, rngL l k hi = R := ⟨_, rfl⟩
  rw [hR] at c4
  rw [hR]
  clear hR
  clear h hs hix
  go_enter Try.func14, Try.ntmps14
  go_wp2_with (first
    | (at_builtin; refine wpList_app rfl (.const (.slice none 0 0)) (.tmp 9) rfl (fun j => j < w.heap.size + 2) _ [] l rfl (PRow.nil _ _) rz2 _ rfl (src_any HA.out) (by simp; omega) l.length (by simp) l rfl ?_; intro ao cp w1 hm1 hc1 hR1 hO1; have H1 : Hid (RW w w1 _ k hi v l ao cp) := Lib.hid (RW.start hR1 hO1); clear hR1 hO1; unfold maxLen at hm1)
    | (go_at_call 12; ((with_reducible refine (c1 _ (HH.out.below H1.out.b)).mono ?_); clear c1; rintro e w2 ⟨rfl, hb2⟩; have H2 := Lib.hid (H1.out.keep hb2); have p0 := H2.out.p0; have p1 := H2.out.p1; have p2 := H2.out.p2; have p3 := H2.out.p3; clear hb2))
    | (go_at_call 11; ((with_reducible refine (c2 _).mono ?_); clear c2; rintro e w3 ⟨rfl, hb3⟩; have H3 := Lib.hid (H2.out.keep hb3); have a1 := cell_alloc H3.out.p1 (.cells #[.int .i64 0, .bool false, .int .i64 0, .int .i64 0, .int .i64 0, .slice none 0 0] 34); clear p0 p1 p2 p3 hb3))
    | (go_at_call 22; ((with_reducible refine (c3 _ (HH.out.below (H3.out.b.trans (((Below.refl _ _).alloc (Nat.le_refl _) _).mono H3.out.b.size)))).mono ?_); clear c3; rintro e w5 ⟨rfl, hb5⟩; have H5 := Lib.hid (H3.out.past5 hb5); have p0 := H5.out.p0; have p1 := H5.out.p1; have p2 := H5.out.p2; have p3 := H5.out.p3; have GA := Lib.hid ((AC.new w3 34).keep hb5); obtain ⟨y0, y1, y2, y3, y4, y5, g0, g1, g2, g3, g4, g5⟩ := (AC.new w3 34).keep hb5; have NG : Hid ((Value.slice ao l.length cp).ownBlock ≠ some w3.heap.size) := Lib.hid (fun e => Nat.lt_irrefl _ (H3.out.row.row.lt _ e).2); have hlt3 := H3.out.r.lt; have hne1 : ¬ w3.heap.size = w.heap.size := (by omega); have hne2 : ¬ w.heap.size = w3.heap.size := (by omega); clear hb5 a1))
    | (go_at_call 25; ((with_reducible refine (c4 _ (HH.out.below H5.out.b)).mono ?_); rintro e w8 ⟨ao2, cp2, rfl, hR8, hb8⟩; have H8 := Lib.hid (H5.out.keep hb8); have G8 := Lib.hid (GA.out.keep hb8); have LW := Lib.hid (show w3.heap.size < w5.heap.size from GA.out.lt); have LW2 := Lib.hid (show w.heap.size + 2 ≤ w5.heap.size from H5.out.r.lt); have HR8 := Lib.hid hR8; clear p0 p1 p2 p3 y0 y1 y2 y3 y4 y5 g0 g1 g2 g3 g4 g5 hR8 hb8; obtain ⟨p0, p1, p2, p3⟩ : _ ∧ _ ∧ _ ∧ _ := ⟨H8.out.p0, H8.out.p1, H8.out.p2, H8.out.p3⟩; obtain ⟨y0, y1, y2, y3, y4, y5, g0, g1, g2, g3, g4, g5⟩ := G8.out)))
  clear p0 p1 p2 p3 y0 y1 y2 y3 y4 y5 g0 g1 g2 g3 g4 g5
  have GZ := Lib.hid (G8.out.cnt R.length).1
  have HZ := Lib.hid (H8.out.only (G8.out.cnt R.length).2 (by have := H3.out.r.lt; omega) NG.out)
  generalize (w8.setCell ⟨w3.heap.size, 4, none⟩ (.int .i64 (R.length : Int)) : World) = WZ at *
  obtain ⟨z0, z1, z2, z3, z4, z5, f0, f1, f2, f3, f4, f5⟩ := HZ.out.r
  obtain ⟨y0, y1, y2, y3, y4, y5, g0, g1, g2, g3, g4, g5⟩ := GZ.out
  go_region_with (fail)
  all_goals
    go_wp2_with (fail)
    obtain ⟨Wf, hWf, r, rb⟩ := HZ.out.r.put 0 false 0 0 R.length (.slice none 0 0)
    rw [← hWf]
    obtain ⟨r0, r1, r2, r3, r4, r5, -, -, -, -, -, -⟩ := r
    refine bodyPost_ret (v := .tuple #[.slice ao l.length cp, .agg #[.int .i64 0, .bool false, .int .i64 0, .int .i64 0, .int .i64 R.length, .slice none 0 0]]) (by simp [results, Try.results14, go_sem, r0, r1, r2, r3, r4, r5]) rfl ?_
    exact ⟨ao, cp, none, 0, rfl, (HZ.out.row.put (putO hWf) (Nat.le_succ _) (fun k hk => by omega)).below ((Below.refl _ _).drew), PRow.nil _ _, (HZ.out.b.trans (rb.mono (by omega))).drew⟩

set_option maxHeartbeats 6400000 in
theorem rdo_70n (a : Option Addr) (cap : Nat) (l : List Pr) (k hi v : Int) (w : World) (h : Prs w a cap l) (hl : l.length ≤ 1200000) (hs : Srt l) (hix : ixL l k = -1) (hn : l.length = 0) :
    Calls Try.prog 14 #[.slice a l.length cap, .agg #[.int .i64 7, .int .i64 k, .int .i64 hi, .int .i64 v]] w (DoIs w l ⟨0, false, 0, 0, 0, []⟩) := by
  have ba : Below w.heap.size w ((w.alloc (.cells #[.int .i64 7, .int .i64 k, .int .i64 hi, .int .i64 v] 25)).alloc (.cells #[.int .i64 0, .bool false, .int .i64 0, .int .i64 0, .int .i64 0, .slice none 0 0] 34)) := ((Below.refl _ _).alloc (Nat.le_refl _) _).alloc (by simp) _
  have HA := Lib.hid (h.below ba)
  have HH := Lib.hid h
  have hcc := h.1
  have hcm := h.2.1
  unfold maxLen at hcm
  have c1 := fun W h => rmay_any a cap l W h true (decide_eq_true hs)
  have c2 := fun W => rmayop_any 7 k hi v W true (decide_eq_true (by unfold okOp; omega))
  have c3 := fun W h => rfind_any a cap l k W h
  rw [hix] at c3
  have hn' : ¬ (0 : Int) < (l.length : Int) := by omega
  clear hn
  clear h hs hix
  go_enter Try.func14, Try.ntmps14
  go_wp2_with (first
    | (at_builtin; refine wpList_app rfl (.const (.slice none 0 0)) (.tmp 9) rfl (fun j => j < w.heap.size + 2) _ [] l rfl (PRow.nil _ _) rz2 _ rfl (src_any HA.out) (by simp; omega) l.length (by simp) l rfl ?_; intro ao cp w1 hm1 hc1 hR1 hO1; have H1 : Hid (RW w w1 _ k hi v l ao cp) := Lib.hid (RW.start hR1 hO1); clear hR1 hO1; unfold maxLen at hm1)
    | (go_at_call 12; ((with_reducible refine (c1 _ (HH.out.below H1.out.b)).mono ?_); clear c1; rintro e w2 ⟨rfl, hb2⟩; have H2 := Lib.hid (H1.out.keep hb2); have p0 := H2.out.p0; have p1 := H2.out.p1; have p2 := H2.out.p2; have p3 := H2.out.p3; clear hb2))
    | (go_at_call 11; ((with_reducible refine (c2 _).mono ?_); clear c2; rintro e w3 ⟨rfl, hb3⟩; have H3 := Lib.hid (H2.out.keep hb3); have a1 := cell_alloc H3.out.p1 (.cells #[.int .i64 0, .bool false, .int .i64 0, .int .i64 0, .int .i64 0, .slice none 0 0] 34); clear p0 p1 p2 p3 hb3))
    | (go_at_call 22; ((with_reducible refine (c3 _ (HH.out.below (H3.out.b.trans (((Below.refl _ _).alloc (Nat.le_refl _) _).mono H3.out.b.size)))).mono ?_); clear c3; rintro e w5 ⟨rfl, hb5⟩; have H5 := Lib.hid (H3.out.past5 hb5); have p0 := H5.out.p0; have p1 := H5.out.p1; have p2 := H5.out.p2; have p3 := H5.out.p3; have GA := Lib.hid ((AC.new w3 34).keep hb5); obtain ⟨y0, y1, y2, y3, y4, y5, g0, g1, g2, g3, g4, g5⟩ := (AC.new w3 34).keep hb5; have NG : Hid ((Value.slice ao l.length cp).ownBlock ≠ some w3.heap.size) := Lib.hid (fun e => Nat.lt_irrefl _ (H3.out.row.row.lt _ e).2); have hlt3 := H3.out.r.lt; have hne1 : ¬ w3.heap.size = w.heap.size := (by omega); have hne2 : ¬ w.heap.size = w3.heap.size := (by omega); clear hb5 a1)))
  clear p0 p1 p2 p3 y0 y1 y2 y3 y4 y5 g0 g1 g2 g3 g4 g5
  have GZ := GA
  have HZ := H5
  obtain ⟨z0, z1, z2, z3, z4, z5, f0, f1, f2, f3, f4, f5⟩ := HZ.out.r
  obtain ⟨y0, y1, y2, y3, y4, y5, g0, g1, g2, g3, g4, g5⟩ := GZ.out
  go_region_with (fail)
  all_goals
    go_wp2_with (fail)
    obtain ⟨Wf, hWf, r, rb⟩ := HZ.out.r.put 0 false 0 0 0 (.slice none 0 0)
    rw [← hWf]
    obtain ⟨r0, r1, r2, r3, r4, r5, -, -, -, -, -, -⟩ := r
    refine bodyPost_ret (v := .tuple #[.slice ao l.length cp, .agg #[.int .i64 0, .bool false, .int .i64 0, .int .i64 0, .int .i64 0, .slice none 0 0]]) (by simp [results, Try.results14, go_sem, r0, r1, r2, r3, r4, r5]) rfl ?_
    exact ⟨ao, cp, none, 0, rfl, (HZ.out.row.put (putO hWf) (Nat.le_succ _) (fun k hk => by omega)).below ((Below.refl _ _).drew), PRow.nil _ _, (HZ.out.b.trans (rb.mono (by omega))).drew⟩

set_option maxHeartbeats 6400000 in
theorem rdo_7n (a : Option Addr) (cap : Nat) (l : List Pr) (k hi v : Int) (w : World) (h : Prs w a cap l) (hl : l.length ≤ 1200000) (hs : Srt l) (hix : ixL l k = -1) (q : Pr) (hq : l[0]? = some q) :
    Calls Try.prog 14 #[.slice a l.length cap, .agg #[.int .i64 7, .int .i64 k, .int .i64 hi, .int .i64 v]] w (DoIs w l ⟨0, true, q.1, q.2, 0, []⟩) := by
  have ba : Below w.heap.size w ((w.alloc (.cells #[.int .i64 7, .int .i64 k, .int .i64 hi, .int .i64 v] 25)).alloc (.cells #[.int .i64 0, .bool false, .int .i64 0, .int .i64 0, .int .i64 0, .slice none 0 0] 34)) := ((Below.refl _ _).alloc (Nat.le_refl _) _).alloc (by simp) _
  have HA := Lib.hid (h.below ba)
  have HH := Lib.hid h
  have hcc := h.1
  have hcm := h.2.1
  unfold maxLen at hcm
  have c1 := fun W h => rmay_any a cap l W h true (decide_eq_true hs)
  have c2 := fun W => rmayop_any 7 k hi v W true (decide_eq_true (by unfold okOp; omega))
  have c3 := fun W h => rfind_any a cap l k W h
  rw [hix] at c3
  have hlt := (List.getElem?_eq_some_iff.1 hq).1
  have hi0 : (0 : Int) < (l.length : Int) := by omega
  obtain ⟨q0, q1⟩ := q
  obtain ⟨pb, po, rfl, e0, e1⟩ := h.2.2.1 0 _ hq
  dsimp only at e0 e1 ⊢
  rw [Nat.zero_mul, Nat.add_zero] at e0 e1
  have HQ := Lib.hid (And.intro e0 e1)
  clear hq e0 e1 hlt
  clear h hs hix
  go_enter Try.func14, Try.ntmps14
  go_wp2_with (first
    | (at_builtin; refine wpList_app rfl (.const (.slice none 0 0)) (.tmp 9) rfl (fun j => j < w.heap.size + 2) _ [] l rfl (PRow.nil _ _) rz2 _ rfl (src_any HA.out) (by simp; omega) l.length (by simp) l rfl ?_; intro ao cp w1 hm1 hc1 hR1 hO1; have H1 : Hid (RW w w1 _ k hi v l ao cp) := Lib.hid (RW.start hR1 hO1); clear hR1 hO1; unfold maxLen at hm1)
    | (go_at_call 12; ((with_reducible refine (c1 _ (HH.out.below H1.out.b)).mono ?_); clear c1; rintro e w2 ⟨rfl, hb2⟩; have H2 := Lib.hid (H1.out.keep hb2); have p0 := H2.out.p0; have p1 := H2.out.p1; have p2 := H2.out.p2; have p3 := H2.out.p3; clear hb2))
    | (go_at_call 11; ((with_reducible refine (c2 _).mono ?_); clear c2; rintro e w3 ⟨rfl, hb3⟩; have H3 := Lib.hid (H2.out.keep hb3); have a1 := cell_alloc H3.out.p1 (.cells #[.int .i64 0, .bool false, .int .i64 0, .int .i64 0, .int .i64 0, .slice none 0 0] 34); clear p0 p1 p2 p3 hb3))
    | (go_at_call 22; ((with_reducible refine (c3 _ (HH.out.below (H3.out.b.trans (((Below.refl _ _).alloc (Nat.le_refl _) _).mono H3.out.b.size)))).mono ?_); clear c3; rintro e w5 ⟨rfl, hb5⟩; have H5 := Lib.hid (H3.out.past5 hb5); have p0 := H5.out.p0; have p1 := H5.out.p1; have p2 := H5.out.p2; have p3 := H5.out.p3; have GA := Lib.hid ((AC.new w3 34).keep hb5); obtain ⟨y0, y1, y2, y3, y4, y5, g0, g1, g2, g3, g4, g5⟩ := (AC.new w3 34).keep hb5; have NG : Hid ((Value.slice ao l.length cp).ownBlock ≠ some w3.heap.size) := Lib.hid (fun e => Nat.lt_irrefl _ (H3.out.row.row.lt _ e).2); have hlt3 := H3.out.r.lt; have hne1 : ¬ w3.heap.size = w.heap.size := (by omega); have hne2 : ¬ w.heap.size = w3.heap.size := (by omega); have e0 := cell_keep HQ.out.1 H5.out.b; have e1 := cell_keep HQ.out.2 H5.out.b; clear hb5 a1)))
  clear p0 p1 p2 p3 y0 y1 y2 y3 y4 y5 g0 g1 g2 g3 g4 g5
  have GZ := Lib.hid (GA.out.found q0 q1).1
  have HZ := Lib.hid (H5.out.only (GA.out.found q0 q1).2 (by have := H3.out.r.lt; omega) NG.out)
  generalize (((w5.setCell ⟨w3.heap.size, 2, none⟩ (.int .i64 q0)).setCell ⟨w3.heap.size, 3, none⟩ (.int .i64 q1)).setCell ⟨w3.heap.size, 1, none⟩ (.bool true) : World) = WZ at *
  obtain ⟨z0, z1, z2, z3, z4, z5, f0, f1, f2, f3, f4, f5⟩ := HZ.out.r
  obtain ⟨y0, y1, y2, y3, y4, y5, g0, g1, g2, g3, g4, g5⟩ := GZ.out
  go_region_with (fail)
  all_goals
    go_wp2_with (fail)
    obtain ⟨Wf, hWf, r, rb⟩ := HZ.out.r.put 0 true q0 q1 0 (.slice none 0 0)
    rw [← hWf]
    obtain ⟨r0, r1, r2, r3, r4, r5, -, -, -, -, -, -⟩ := r
    refine bodyPost_ret (v := .tuple #[.slice ao l.length cp, .agg #[.int .i64 0, .bool true, .int .i64 q0, .int .i64 q1, .int .i64 0, .slice none 0 0]]) (by simp [results, Try.results14, go_sem, r0, r1, r2, r3, r4, r5]) rfl ?_
    exact ⟨ao, cp, none, 0, rfl, (HZ.out.row.put (putO hWf) (Nat.le_succ _) (fun k hk => by omega)).below ((Below.refl _ _).drew), PRow.nil _ _, (HZ.out.b.trans (rb.mono (by omega))).drew⟩

set_option maxHeartbeats 6400000 in
theorem rdo_80n (a : Option Addr) (cap : Nat) (l : List Pr) (k hi v : Int) (w : World) (h : Prs w a cap l) (hl : l.length ≤ 1200000) (hs : Srt l) (hix : ixL l k = -1) (hn : l.length = 0) :
    Calls Try.prog 14 #[.slice a l.length cap, .agg #[.int .i64 8, .int .i64 k, .int .i64 hi, .int .i64 v]] w (DoIs w l ⟨0, false, 0, 0, 0, []⟩) := by
  have ba : Below w.heap.size w ((w.alloc (.cells #[.int .i64 8, .int .i64 k, .int .i64 hi, .int .i64 v] 25)).alloc (.cells #[.int .i64 0, .bool false, .int .i64 0, .int .i64 0, .int .i64 0, .slice none 0 0] 34)) := ((Below.refl _ _).alloc (Nat.le_refl _) _).alloc (by simp) _
  have HA := Lib.hid (h.below ba)
  have HH := Lib.hid h
  have hcc := h.1
  have hcm := h.2.1
  unfold maxLen at hcm
  have c1 := fun W h => rmay_any a cap l W h true (decide_eq_true hs)
  have c2 := fun W => rmayop_any 8 k hi v W true (decide_eq_true (by unfold okOp; omega))
  have c3 := fun W h => rfind_any a cap l k W h
  rw [hix] at c3
  have hn' : ¬ (0 : Int) < (l.length : Int) := by omega
  clear hn
  clear h hs hix
  go_enter Try.func14, Try.ntmps14
  go_wp2_with (first
    | (at_builtin; refine wpList_app rfl (.const (.slice none 0 0)) (.tmp 9) rfl (fun j => j < w.heap.size + 2) _ [] l rfl (PRow.nil _ _) rz2 _ rfl (src_any HA.out) (by simp; omega) l.length (by simp) l rfl ?_; intro ao cp w1 hm1 hc1 hR1 hO1; have H1 : Hid (RW w w1 _ k hi v l ao cp) := Lib.hid (RW.start hR1 hO1); clear hR1 hO1; unfold maxLen at hm1)
    | (go_at_call 12; ((with_reducible refine (c1 _ (HH.out.below H1.out.b)).mono ?_); clear c1; rintro e w2 ⟨rfl, hb2⟩; have H2 := Lib.hid (H1.out.keep hb2); have p0 := H2.out.p0; have p1 := H2.out.p1; have p2 := H2.out.p2; have p3 := H2.out.p3; clear hb2))
    | (go_at_call 11; ((with_reducible refine (c2 _).mono ?_); clear c2; rintro e w3 ⟨rfl, hb3⟩; have H3 := Lib.hid (H2.out.keep hb3); have a1 := cell_alloc H3.out.p1 (.cells #[.int .i64 0, .bool false, .int .i64 0, .int .i64 0, .int .i64 0, .slice none 0 0] 34); clear p0 p1 p2 p3 hb3))
    | (go_at_call 22; ((with_reducible refine (c3 _ (HH.out.below (H3.out.b.trans (((Below.refl _ _).alloc (Nat.le_refl _) _).mono H3.out.b.size)))).mono ?_); clear c3; rintro e w5 ⟨rfl, hb5⟩; have H5 := Lib.hid (H3.out.past5 hb5); have p0 := H5.out.p0; have p1 := H5.out.p1; have p2 := H5.out.p2; have p3 := H5.out.p3; have GA := Lib.hid ((AC.new w3 34).keep hb5); obtain ⟨y0, y1, y2, y3, y4, y5, g0, g1, g2, g3, g4, g5⟩ := (AC.new w3 34).keep hb5; have NG : Hid ((Value.slice ao l.length cp).ownBlock ≠ some w3.heap.size) := Lib.hid (fun e => Nat.lt_irrefl _ (H3.out.row.row.lt _ e).2); have hlt3 := H3.out.r.lt; have hne1 : ¬ w3.heap.size = w.heap.size := (by omega); have hne2 : ¬ w.heap.size = w3.heap.size := (by omega); clear hb5 a1)))
  clear p0 p1 p2 p3 y0 y1 y2 y3 y4 y5 g0 g1 g2 g3 g4 g5
  have GZ := GA
  have HZ := H5
  obtain ⟨z0, z1, z2, z3, z4, z5, f0, f1, f2, f3, f4, f5⟩ := HZ.out.r
  obtain ⟨y0, y1, y2, y3, y4, y5, g0, g1, g2, g3, g4, g5⟩ := GZ.out
  go_region_with (fail)
  all_goals
    go_wp2_with (fail)
    obtain ⟨Wf, hWf, r, rb⟩ := HZ.out.r.put 0 false 0 0 0 (.slice none 0 0)
    rw [← hWf]
    obtain ⟨r0, r1, r2, r3, r4, r5, -, -, -, -, -, -⟩ := r
    refine bodyPost_ret (v := .tuple #[.slice ao l.length cp, .agg #[.int .i64 0, .bool false, .int .i64 0, .int .i64 0, .int .i64 0, .slice none 0 0]]) (by simp [results, Try.results14, go_sem, r0, r1, r2, r3, r4, r5]) rfl ?_
    exact ⟨ao, cp, none, 0, rfl, (HZ.out.row.put (putO hWf) (Nat.le_succ _) (fun k hk => by omega)).below ((Below.refl _ _).drew), PRow.nil _ _, (HZ.out.b.trans (rb.mono (by omega))).drew⟩

set_option maxHeartbeats 6400000 in
theorem rdo_8n (a : Option Addr) (cap : Nat) (l : List Pr) (k hi v : Int) (w : World) (h : Prs w a cap l) (hl : l.length ≤ 1200000) (hs : Srt l) (hix : ixL l k = -1) (q : Pr) (hq : l[(l.length - 1)]? = some q) :
    Calls Try.prog 14 #[.slice a l.length cap, .agg #[.int .i64 8, .int .i64 k, .int .i64 hi, .int .i64 v]] w (DoIs w l ⟨0, true, q.1, q.2, 0, []⟩) := by
  have ba : Below w.heap.size w ((w.alloc (.cells #[.int .i64 8, .int .i64 k, .int .i64 hi, .int .i64 v] 25)).alloc (.cells #[.int .i64 0, .bool false, .int .i64 0, .int .i64 0, .int .i64 0, .slice none 0 0] 34)) := ((Below.refl _ _).alloc (Nat.le_refl _) _).alloc (by simp) _
  have HA := Lib.hid (h.below ba)
  have HH := Lib.hid h
  have hcc := h.1
  have hcm := h.2.1
  unfold maxLen at hcm
  have c1 := fun W h => rmay_any a cap l W h true (decide_eq_true hs)
  have c2 := fun W => rmayop_any 8 k hi v W true (decide_eq_true (by unfold okOp; omega))
  have c3 := fun W h => rfind_any a cap l k W h
  rw [hix] at c3
  have hlt := (List.getElem?_eq_some_iff.1 hq).1
  have hi0 : (0 : Int) < (l.length : Int) := by omega
  obtain ⟨q0, q1⟩ := q
  obtain ⟨pb, po, rfl, e0, e1⟩ := h.2.2.1 (l.length - 1) _ hq
  dsimp only at e0 e1 ⊢
  have HQ := Lib.hid (And.intro e0 e1)
  clear hq e0 e1 hlt
  clear h hs hix
  go_enter Try.func14, Try.ntmps14
  go_wp2_with (first
    | (at_builtin; refine wpList_app rfl (.const (.slice none 0 0)) (.tmp 9) rfl (fun j => j < w.heap.size + 2) _ [] l rfl (PRow.nil _ _) rz2 _ rfl (src_any HA.out) (by simp; omega) l.length (by simp) l rfl ?_; intro ao cp w1 hm1 hc1 hR1 hO1; have H1 : Hid (RW w w1 _ k hi v l ao cp) := Lib.hid (RW.start hR1 hO1); clear hR1 hO1; unfold maxLen at hm1)
    | (go_at_call 12; ((with_reducible refine (c1 _ (HH.out.below H1.out.b)).mono ?_); clear c1; rintro e w2 ⟨rfl, hb2⟩; have H2 := Lib.hid (H1.out.keep hb2); have p0 := H2.out.p0; have p1 := H2.out.p1; have p2 := H2.out.p2; have p3 := H2.out.p3; clear hb2))
    | (go_at_call 11; ((with_reducible refine (c2 _).mono ?_); clear c2; rintro e w3 ⟨rfl, hb3⟩; have H3 := Lib.hid (H2.out.keep hb3); have a1 := cell_alloc H3.out.p1 (.cells #[.int .i64 0, .bool false, .int .i64 0, .int .i64 0, .int .i64 0, .slice none 0 0] 34); clear p0 p1 p2 p3 hb3))
    | (go_at_call 22; ((with_reducible refine (c3 _ (HH.out.below (H3.out.b.trans (((Below.refl _ _).alloc (Nat.le_refl _) _).mono H3.out.b.size)))).mono ?_); clear c3; rintro e w5 ⟨rfl, hb5⟩; have H5 := Lib.hid (H3.out.past5 hb5); have p0 := H5.out.p0; have p1 := H5.out.p1; have p2 := H5.out.p2; have p3 := H5.out.p3; have GA := Lib.hid ((AC.new w3 34).keep hb5); obtain ⟨y0, y1, y2, y3, y4, y5, g0, g1, g2, g3, g4, g5⟩ := (AC.new w3 34).keep hb5; have NG : Hid ((Value.slice ao l.length cp).ownBlock ≠ some w3.heap.size) := Lib.hid (fun e => Nat.lt_irrefl _ (H3.out.row.row.lt _ e).2); have hlt3 := H3.out.r.lt; have hne1 : ¬ w3.heap.size = w.heap.size := (by omega); have hne2 : ¬ w.heap.size = w3.heap.size := (by omega); have e0 := cell_keep HQ.out.1 H5.out.b; have e1 := cell_keep HQ.out.2 H5.out.b; clear hb5 a1)))
  clear p0 p1 p2 p3 y0 y1 y2 y3 y4 y5 g0 g1 g2 g3 g4 g5
  have GZ := Lib.hid (GA.out.found q0 q1).1
  have HZ := Lib.hid (H5.out.only (GA.out.found q0 q1).2 (by have := H3.out.r.lt; omega) NG.out)
  generalize (((w5.setCell ⟨w3.heap.size, 2, none⟩ (.int .i64 q0)).setCell ⟨w3.heap.size, 3, none⟩ (.int .i64 q1)).setCell ⟨w3.heap.size, 1, none⟩ (.bool true) : World) = WZ at *
  obtain ⟨z0, z1, z2, z3, z4, z5, f0, f1, f2, f3, f4, f5⟩ := HZ.out.r
  obtain ⟨y0, y1, y2, y3, y4, y5, g0, g1, g2, g3, g4, g5⟩ := GZ.out
  go_region_with (fail)
  all_goals
    go_wp2_with (fail)
    obtain ⟨Wf, hWf, r, rb⟩ := HZ.out.r.put 0 true q0 q1 0 (.slice none 0 0)
    rw [← hWf]
    obtain ⟨r0, r1, r2, r3, r4, r5, -, -, -, -, -, -⟩ := r
    refine bodyPost_ret (v := .tuple #[.slice ao l.length cp, .agg #[.int .i64 0, .bool true, .int .i64 q0, .int .i64 q1, .int .i64 0, .slice none 0 0]]) (by simp [results, Try.results14, go_sem, r0, r1, r2, r3, r4, r5]) rfl ?_
    exact ⟨ao, cp, none, 0, rfl, (HZ.out.row.put (putO hWf) (Nat.le_succ _) (fun k hk => by omega)).below ((Below.refl _ _).drew), PRow.nil _ _, (HZ.out.b.trans (rb.mono (by omega))).drew⟩

/-- osierref1.Do. -/
theorem rdo_any (a : Option Addr) (cap : Nat) (l : List Pr) (c k hi v : Int) (w : World) (h : Prs w a cap l) (hl : l.length ≤ 1200000) :
    Calls Try.prog 14 #[.slice a l.length cap, .agg #[.int .i64 c, .int .i64 k, .int .i64 hi, .int .i64 v]] w (DoIs w (doP l c k v) (doA l c k hi)) := by
  by_cases hs : Srt l
  rotate_left
  · rw [doA_bad (fun x => hs x.1), doP_bad (fun x => hs x.1)]
    exact rdo_bad1 a cap l c k hi v w h hl hs
  by_cases ho : okOp c
  rotate_left
  · rw [doA_bad (fun x => ho x.2), doP_bad (fun x => ho x.2)]
    exact rdo_bad2 a cap l c k hi v w h hl hs ho
  have h1 := ho.1
  have h8 := ho.2
  rcases (show c = 1 ∨ c = 2 ∨ c = 3 ∨ c = 4 ∨ c = 5 ∨ c = 6 ∨ c = 7 ∨ c = 8 by omega) with rfl | rfl | rfl | rfl | rfl | rfl | rfl | rfl
  · rw [doA_had hs ho k hi (by decide), doP_put hs ho k v rfl]
    unfold hadD
    rcases ix_had l k with ⟨n, xv, hq, hix, hh⟩ | ⟨hix, hh⟩ <;> rw [hh]
    · exact rdo_1y a cap l k hi v w h hl hs n xv hq hix
    · exact rdo_1n a cap l k hi v w h hl hs hix
  · rw [doA_had hs ho k hi (by decide), doP_add hs ho k v rfl]
    unfold hadD
    rcases ix_had l k with ⟨n, xv, hq, hix, hh⟩ | ⟨hix, hh⟩ <;> rw [hh]
    · rw [if_pos rfl]; exact rdo_2y a cap l k hi v w h hl hs n xv hq hix
    · rw [if_neg (by decide)]; exact rdo_2n a cap l k hi v w h hl hs hix
  · rw [doA_had hs ho k hi (by decide), doP_cut hs ho k v rfl]
    unfold hadD
    rcases ix_had l k with ⟨n, xv, hq, hix, hh⟩ | ⟨hix, hh⟩ <;> rw [hh]
    · exact rdo_3y a cap l k hi v w h hl hs n xv hq hix
    · exact rdo_3n a cap l k hi v w h hl hs hix
  · rw [doA_had hs ho k hi (by decide), doP_read hs ho k v (by decide)]
    unfold hadD
    rcases ix_had l k with ⟨n, xv, hq, hix, hh⟩ | ⟨hix, hh⟩ <;> rw [hh]
    · exact rdo_4y a cap l k hi v w h hl hs n xv hq hix
    · exact rdo_4n a cap l k hi v w h hl hs hix
  · rw [doA_rng hs ho k hi rfl, doP_read hs ho k v (by decide)]
    rcases ix_had l k with ⟨n, xv, hq, hix, hh⟩ | ⟨hix, hh⟩
    · exact rdo_5y a cap l k hi v w h hl hs n hix
    · exact rdo_5n a cap l k hi v w h hl hs hix
  · rw [doA_cnt hs ho k hi rfl, doP_read hs ho k v (by decide)]
    rcases ix_had l k with ⟨n, xv, hq, hix, hh⟩ | ⟨hix, hh⟩
    · exact rdo_6y a cap l k hi v w h hl hs n hix
    · exact rdo_6n a cap l k hi v w h hl hs hix
  · rw [doA_min hs ho k hi rfl, doP_read hs ho k v (by decide)]
    rcases ix_had l k with ⟨n, xv, _, hix, hh⟩ | ⟨hix, hh⟩
    · cases hq : l[0]? with
      | none => exact rdo_70y a cap l k hi v w h hl hs n hix (by have := List.getElem?_eq_none_iff.1 hq; omega)
      | some q => exact rdo_7y a cap l k hi v w h hl hs n hix q hq
    · cases hq : l[0]? with
      | none => exact rdo_70n a cap l k hi v w h hl hs hix (by have := List.getElem?_eq_none_iff.1 hq; omega)
      | some q => exact rdo_7n a cap l k hi v w h hl hs hix q hq
  · rw [doA_max hs ho k hi rfl, doP_read hs ho k v (by decide)]
    rcases ix_had l k with ⟨n, xv, _, hix, hh⟩ | ⟨hix, hh⟩
    · cases hq : l[l.length - 1]? with
      | none => exact rdo_80y a cap l k hi v w h hl hs n hix (by have := List.getElem?_eq_none_iff.1 hq; omega)
      | some q => exact rdo_8y a cap l k hi v w h hl hs n hix q hq
    · cases hq : l[l.length - 1]? with
      | none => exact rdo_80n a cap l k hi v w h hl hs hix (by have := List.getElem?_eq_none_iff.1 hq; omega)
      | some q => exact rdo_8n a cap l k hi v w h hl hs hix q hq
end Go.Proofs.Ytadfnbmogobopaa
