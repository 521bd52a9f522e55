/- leaf.updated over sorted pairs. No condition: lemmas. -/
import Derived.Test.YtadfnbmogobopaaLfD
namespace Go.Proofs.Ytadfnbmogobopaa
open Go.RowKit
set_option linter.all false

theorem prs2 {w2 W : World} {g : Nat} {a1 a2 : Option Addr} {c1 c2 : Nat} {l1 l2 : List Pr} (h1 : Prs w2 a1 c1 l1) (h2 : Prs w2 a2 c2 l2) (e0 : W.cell? ⟨g, 0, none⟩ = some (.slice a1 l1.length c1)) (e1 : W.cell? ⟨g, 1, none⟩ = some (.slice a2 l2.length c2)) (hb : Below w2.heap.size w2 W) : PRs W g [⟨a1, c1, l1⟩, ⟨a2, c2, l2⟩] := by
  intro j r hr
  match j, hr with
  | 0, hr => simp at hr; subst hr; exact ⟨e0, h1.below hb⟩
  | 1, hr => simp at hr; subst hr; exact ⟨e1, h2.below hb⟩
theorem prs3 {w2 W : World} {g : Nat} {a1 a2 a3 : Option Addr} {c1 c2 c3 : Nat} {l1 l2 l3 : List Pr} (h1 : Prs w2 a1 c1 l1) (h2 : Prs W a2 c2 l2) (h3 : Prs w2 a3 c3 l3) (e0 : W.cell? ⟨g, 0, none⟩ = some (.slice a1 l1.length c1)) (e1 : W.cell? ⟨g, 1, none⟩ = some (.slice a2 l2.length c2)) (e2 : W.cell? ⟨g, 2, none⟩ = some (.slice a3 l3.length c3)) (hb : Below w2.heap.size w2 W) : PRs W g [⟨a1, c1, l1⟩, ⟨a2, c2, l2⟩, ⟨a3, c3, l3⟩] := by
  intro j r hr
  match j, hr with
  | 0, hr => simp at hr; subst hr; exact ⟨e0, h1.below hb⟩
  | 1, hr => simp at hr; subst hr; exact ⟨e1, h2⟩
  | 2, hr => simp at hr; subst hr; exact ⟨e2, h3.below hb⟩
theorem RowIs.sub {w W : World} {L : List Pr} {e : Ending} {w' : World} (hb : Below w.heap.size w W) (h : RowIs W L e w') : RowIs w L e w' := by
  obtain ⟨ao, cp, rfl, hR, hB⟩ := h
  exact ⟨ao, cp, rfl, hR.sub (fun k _ hk => Nat.lt_of_lt_of_le hk hb.size), hb.trans (hB.mono hb.size)⟩
theorem catL2 (a1 a2 : Option Addr) (c1 c2 : Nat) (l1 l2 : List Pr) : catL [⟨a1, c1, l1⟩, ⟨a2, c2, l2⟩] = l1 ++ l2 := by simp [catL]
theorem catL3 (a1 a2 a3 : Option Addr) (c1 c2 c3 : Nat) (l1 l2 l3 : List Pr) : catL [⟨a1, c1, l1⟩, ⟨a2, c2, l2⟩, ⟨a3, c3, l3⟩] = l1 ++ (l2 ++ l3) := by simp [catL]
theorem prs_takeL {w : World} {a : Option Addr} {cap : Nat} {l : List Pr} (h : Prs w a cap l) (m : Nat) (hm : m ≤ l.length) : Prs w a cap (l.take m) ∧ (l.take m).length = m := by
  have hl : (l.take m).length = m := by rw [List.length_take]; omega
  refine ⟨⟨by rw [hl]; have := h.1; omega, h.2.1, fun n q hq => ?_, h.2.2.2⟩, hl⟩
  have hn : n < m := by have := (List.getElem?_eq_some_iff.1 hq).1; omega
  rw [List.getElem?_take_of_lt hn] at hq
  exact h.2.2.1 n q hq
/-- Two of them in a row. -/
theorem cat2 {w w2 : World} (hw : Below w.heap.size w w2) {a1 a2 : Option Addr} {c1 c2 n1 n2 : Nat} {l1 l2 R : List Pr} (h1 : Prs w2 a1 c1 l1) (e1 : n1 = l1.length) (h2 : Prs w2 a2 c2 l2) (e2 : n2 = l2.length) (hR : l1 ++ l2 = R) (hl : R.length ≤ 3000000)
    (g : Nat) (W : World) (d0 : W.cell? ⟨g, 0, none⟩ = some (.slice a1 n1 c1)) (d1 : W.cell? ⟨g, 1, none⟩ = some (.slice a2 n2 c2)) (hb : Below w2.heap.size w2 W) :
    Calls Try.prog 69 #[.slice (some ⟨g, 0, none⟩) 2 2] W (RowIs w R) := by
  subst e1 e2
  have c := concat_any g [⟨a1, c1, l1⟩, ⟨a2, c2, l2⟩] W (prs2 h1 h2 d0 d1 hb) (by rw [← catL_len, catL2, hR]; exact hl) (by simp) 2 (by simp) (by omega)
  rw [catL2, hR] at c
  exact c.mono (fun e w' h => RowIs.sub (hw.trans (hb.mono hw.size)) h)
/-- Three of them in a row. -/
theorem cat3 {w w2 : World} (hw : Below w.heap.size w w2) {a1 a2 a3 : Option Addr} {c1 c2 c3 n1 n3 : Nat} {l1 l2 l3 R : List Pr} (h1 : Prs w2 a1 c1 l1) (e1 : n1 = l1.length) (h3 : Prs w2 a3 c3 l3) (e3 : n3 = l3.length) (hR : l1 ++ (l2 ++ l3) = R) (hl : R.length ≤ 3000000)
    (g : Nat) (W : World) (h2 : Prs W a2 c2 l2) (d0 : W.cell? ⟨g, 0, none⟩ = some (.slice a1 n1 c1)) (d1 : W.cell? ⟨g, 1, none⟩ = some (.slice a2 l2.length c2)) (d2 : W.cell? ⟨g, 2, none⟩ = some (.slice a3 n3 c3)) (hb : Below w2.heap.size w2 W) :
    Calls Try.prog 69 #[.slice (some ⟨g, 0, none⟩) 3 3] W (RowIs w R) := by
  subst e1 e3
  have c := concat_any g [⟨a1, c1, l1⟩, ⟨a2, c2, l2⟩, ⟨a3, c3, l3⟩] W (prs3 h1 h2 h3 d0 d1 d2 hb) (by rw [← catL_len, catL3, hR]; exact hl) (by simp) 3 (by simp) (by omega)
  rw [catL3, hR] at c
  exact c.mono (fun e w' h => RowIs.sub (hw.trans (hb.mono hw.size)) h)
theorem prs_one {W : World} {g : Nat} {k v : Int} (d0 : W.cell? ⟨g, 0, none⟩ = some (.int .i64 k)) (d1 : W.cell? ⟨g, 1, none⟩ = some (.int .i64 v)) : Prs W (some ⟨g, 0, none⟩) 1 [(k, v)] :=
  ⟨Nat.le_refl _, by unfold maxLen; omega, fun n q hq => by
    match n, hq with
    | 0, hq => simp at hq; subst hq; exact ⟨g, 0, rfl, d0, d1⟩, fun e => by cases e⟩

set_option maxHeartbeats 3200000 in
theorem upd_same (a : Option Addr) (cap : Nat) (l : List Pr) (k hi v : Int) (w : World) (h : Prs w a cap l) (hl : l.length ≤ 1200000) (m : Nat) (L : Lo l k m) (h1 : hasB l k m = true) (R : List Pr) (hR : l = R) :
    Calls Try.prog 62 #[.slice a l.length cap, .agg #[.int .i64 2, .int .i64 k, .int .i64 hi, .int .i64 v]] w (RowIs w R) := by
  have ba : Below w.heap.size w (w.alloc (.cells #[.int .i64 2, .int .i64 k, .int .i64 hi, .int .i64 v] 25)) := (Below.refl _ _).alloc (Nat.le_refl _) _
  have c1 := fun W h => place_any a cap l k W h (by omega) m L true h1
  have ht2 : bh m true ≤ l.length := by rw [← h1]; exact bh_le L
  have hml := L.le
  have HH := Lib.hid h
  have hc := h.1
  have hcm := h.2.1
  unfold maxLen at hcm
  have HA := Lib.hid (h.below ba)
  have BA := Lib.hid ba
  clear h L h1 ba
  subst hR
  have c2 := fun W h => copied_any a cap l W h (by omega)
  go_enter Try.func62, Try.ntmps62
  go_wp2_with (first
    | (go_at_call 68; ((with_reducible refine (c1 _ HA.out).mono ?_); clear c1; rintro e w2 ⟨rfl, hb2⟩; have HB2 := Lib.hid hb2; have d0 := cell_new hb2 0 rfl; have d1 := cell_new hb2 1 rfl; have d2 := cell_new hb2 2 rfl; have d3 := cell_new hb2 3 rfl))
    | (go_at_call 60; ((with_reducible refine (c2 _ (HA.out.below HB2.out)).mono ?_); clear c2; rintro e w3 ⟨ao, cp, rfl, hR3, hb3⟩)))
  go_ret
  exact RowIs.sub (BA.out.trans (HB2.out.mono BA.out.size)) ⟨_, _, rfl, hR3, hb3⟩

set_option maxHeartbeats 3200000 in
theorem upd_cut (a : Option Addr) (cap : Nat) (l : List Pr) (k hi v : Int) (w : World) (h : Prs w a cap l) (hl : l.length ≤ 1200000) (m : Nat) (L : Lo l k m) (B : Bool) (h1 : hasB l k m = B) (R : List Pr) (hR : l.take m ++ l.drop (bh m B) = R) :
    Calls Try.prog 62 #[.slice a l.length cap, .agg #[.int .i64 3, .int .i64 k, .int .i64 hi, .int .i64 v]] w (RowIs w R) := by
  have ba : Below w.heap.size w (w.alloc (.cells #[.int .i64 3, .int .i64 k, .int .i64 hi, .int .i64 v] 25)) := (Below.refl _ _).alloc (Nat.le_refl _) _
  have c1 := fun W h => place_any a cap l k W h (by omega) m L B h1
  have ht2 : bh m B ≤ l.length := by rw [← h1]; exact bh_le L
  have hml := L.le
  have HH := Lib.hid h
  have hc := h.1
  have hcm := h.2.1
  unfold maxLen at hcm
  have HA := Lib.hid (h.below ba)
  have BA := Lib.hid ba
  clear h L h1 ba
  cases B
  · simp only [bh, Bool.false_eq_true, if_false, if_true] at ht2 hR
    obtain ⟨hT, hTl⟩ := prs_takeL HH.out m hml
    have hlR : R.length ≤ 3000000 := by subst hR; simp; omega
    have hk0 : (0 : Int) ≤ (m : Int) := by omega
    have hk1 : (m : Int) ≤ (cap : Int) := by omega
    have hk2 : (m : Int) ≤ (l.length : Int) := by omega
    have hk3 : (l.length : Int) ≤ (cap : Int) := by omega
    by_cases hct : cap = m
    · obtain ⟨hD, hDl⟩ : Prs w a 0 (l.drop m) ∧ (l.drop m).length = 0 := by
        have e : l.drop m = [] := List.drop_eq_nil_iff.2 (by omega)
        rw [e]; exact ⟨prs_empty HH.out (Nat.zero_le _), rfl⟩
      have HT := Lib.hid hT
      have HD := Lib.hid hD
      have HX := Lib.hid (And.intro hR hlR)
      have c2 : ∀ w2, Below w.heap.size w w2 → ∀ g W, W.cell? ⟨g, 0, none⟩ = some (.slice a m cap) → W.cell? ⟨g, 1, none⟩ = some (.slice a 0 0) → Below w2.heap.size w2 W → Calls Try.prog 69 #[.slice (some ⟨g, 0, none⟩) 2 2] W (RowIs w R) :=
        fun w2 hw => cat2 hw (hT.below hw) hTl.symm (hD.below hw) hDl.symm hR hlR
      clear hT hD hR hlR hTl hDl
      subst hct
      go_enter Try.func62, Try.ntmps62
      go_wp2_with (go_at_call 68; ((with_reducible refine (c1 _ HA.out).mono ?_); clear c1; rintro e w2 ⟨rfl, hb2⟩; have HB2 := Lib.hid (BA.out.trans (hb2.mono BA.out.size)); have d0 := cell_new hb2 0 rfl; have d1 := cell_new hb2 1 rfl; have d2 := cell_new hb2 2 rfl; have d3 := cell_new hb2 3 rfl; clear hb2))
      go_region_law (go_simp; go_at_call 69; ((with_reducible refine (c2 w2 HB2.out _ _ (by simp) (by simp) (by first | exact ((Below.refl _ _).alloc (Nat.le_refl _) _).drew | exact ((Below.refl _ _).drew).alloc (Nat.le_refl _) _)).mono ?_); rintro e w3 ⟨ao, cp, rfl, hR3, hb3⟩))
      all_goals
        go_wp2_with (fail)
        go_ret
        exact ⟨_, _, rfl, hR3, hb3⟩
    · obtain ⟨hD, hDl⟩ : Prs w (Option.map (fun z => z.add (m * 2)) a) (cap - m) (l.drop m) ∧ (l.drop m).length = (l.length - m) := by
        have := prs_sub HH.out m l.length ht2 (Nat.le_refl _) hct
        rwa [List.take_of_length_le (by rw [List.length_drop]; exact Nat.le_refl _)] at this
      have hcI : ¬ (cap : Int) = (m : Int) := by omega
      have HT := Lib.hid hT
      have HD := Lib.hid hD
      have HX := Lib.hid (And.intro hR hlR)
      have c2 : ∀ w2, Below w.heap.size w w2 → ∀ g W, W.cell? ⟨g, 0, none⟩ = some (.slice a m cap) → W.cell? ⟨g, 1, none⟩ = some (.slice (Option.map (fun z => z.add (m * 2)) a) (l.length - m) (cap - m)) → Below w2.heap.size w2 W → Calls Try.prog 69 #[.slice (some ⟨g, 0, none⟩) 2 2] W (RowIs w R) :=
        fun w2 hw => cat2 hw (hT.below hw) hTl.symm (hD.below hw) hDl.symm hR hlR
      clear hT hD hR hlR hTl hDl
      go_enter Try.func62, Try.ntmps62
      go_wp2_with (go_at_call 68; ((with_reducible refine (c1 _ HA.out).mono ?_); clear c1; rintro e w2 ⟨rfl, hb2⟩; have HB2 := Lib.hid (BA.out.trans (hb2.mono BA.out.size)); have d0 := cell_new hb2 0 rfl; have d1 := cell_new hb2 1 rfl; have d2 := cell_new hb2 2 rfl; have d3 := cell_new hb2 3 rfl; clear hb2))
      go_region_law (go_simp; go_at_call 69; ((with_reducible refine (c2 w2 HB2.out _ _ (by simp) (by simp) (by first | exact ((Below.refl _ _).alloc (Nat.le_refl _) _).drew | exact ((Below.refl _ _).drew).alloc (Nat.le_refl _) _)).mono ?_); rintro e w3 ⟨ao, cp, rfl, hR3, hb3⟩))
      all_goals
        go_wp2_with (fail)
        go_ret
        exact ⟨_, _, rfl, hR3, hb3⟩
  · simp only [bh, Bool.false_eq_true, if_false, if_true] at ht2 hR
    obtain ⟨hT, hTl⟩ := prs_takeL HH.out m hml
    have hlR : R.length ≤ 3000000 := by subst hR; simp; omega
    have hk0 : (0 : Int) ≤ (m : Int) := by omega
    have hk1 : (m : Int) ≤ (cap : Int) := by omega
    have hk2 : (m : Int) ≤ (l.length : Int) := by omega
    have hk3 : (l.length : Int) ≤ (cap : Int) := by omega
    have hw1 : wrap64 ((m : Int) + 1) = (m : Int) + 1 := by unfold wrap64; omega
    have hk4 : (0 : Int) ≤ (m : Int) + 1 := by omega
    have hk5 : (m : Int) + 1 ≤ (l.length : Int) := by omega
    have hk6 : ((m : Int) + 1).toNat = m + 1 := by omega
    have hk7 : (m : Int) ≤ (m : Int) + 1 := by omega
    by_cases hct : cap = (m + 1)
    · obtain ⟨hD, hDl⟩ : Prs w a 0 (l.drop (m + 1)) ∧ (l.drop (m + 1)).length = 0 := by
        have e : l.drop (m + 1) = [] := List.drop_eq_nil_iff.2 (by omega)
        rw [e]; exact ⟨prs_empty HH.out (Nat.zero_le _), rfl⟩
      have HT := Lib.hid hT
      have HD := Lib.hid hD
      have HX := Lib.hid (And.intro hR hlR)
      have c2 : ∀ w2, Below w.heap.size w w2 → ∀ g W, W.cell? ⟨g, 0, none⟩ = some (.slice a m cap) → W.cell? ⟨g, 1, none⟩ = some (.slice a 0 0) → Below w2.heap.size w2 W → Calls Try.prog 69 #[.slice (some ⟨g, 0, none⟩) 2 2] W (RowIs w R) :=
        fun w2 hw => cat2 hw (hT.below hw) hTl.symm (hD.below hw) hDl.symm hR hlR
      clear hT hD hR hlR hTl hDl
      subst hct
      go_enter Try.func62, Try.ntmps62
      go_wp2_with (go_at_call 68; ((with_reducible refine (c1 _ HA.out).mono ?_); clear c1; rintro e w2 ⟨rfl, hb2⟩; have HB2 := Lib.hid (BA.out.trans (hb2.mono BA.out.size)); have d0 := cell_new hb2 0 rfl; have d1 := cell_new hb2 1 rfl; have d2 := cell_new hb2 2 rfl; have d3 := cell_new hb2 3 rfl; clear hb2))
      go_region_law (go_simp; go_at_call 69; ((with_reducible refine (c2 w2 HB2.out _ _ (by simp) (by simp) (by first | exact ((Below.refl _ _).alloc (Nat.le_refl _) _).drew | exact ((Below.refl _ _).drew).alloc (Nat.le_refl _) _)).mono ?_); rintro e w3 ⟨ao, cp, rfl, hR3, hb3⟩))
      all_goals
        go_wp2_with (fail)
        go_ret
        exact ⟨_, _, rfl, hR3, hb3⟩
    · obtain ⟨hD, hDl⟩ : Prs w (Option.map (fun z => z.add ((m + 1) * 2)) a) (cap - (m + 1)) (l.drop (m + 1)) ∧ (l.drop (m + 1)).length = (l.length - (m + 1)) := by
        have := prs_sub HH.out (m + 1) l.length ht2 (Nat.le_refl _) hct
        rwa [List.take_of_length_le (by rw [List.length_drop]; exact Nat.le_refl _)] at this
      have hcI : ¬ (cap : Int) = ((m : Int) + 1) := by omega
      have HT := Lib.hid hT
      have HD := Lib.hid hD
      have HX := Lib.hid (And.intro hR hlR)
      have c2 : ∀ w2, Below w.heap.size w w2 → ∀ g W, W.cell? ⟨g, 0, none⟩ = some (.slice a m cap) → W.cell? ⟨g, 1, none⟩ = some (.slice (Option.map (fun z => z.add ((m + 1) * 2)) a) (l.length - (m + 1)) (cap - (m + 1))) → Below w2.heap.size w2 W → Calls Try.prog 69 #[.slice (some ⟨g, 0, none⟩) 2 2] W (RowIs w R) :=
        fun w2 hw => cat2 hw (hT.below hw) hTl.symm (hD.below hw) hDl.symm hR hlR
      clear hT hD hR hlR hTl hDl
      go_enter Try.func62, Try.ntmps62
      go_wp2_with (go_at_call 68; ((with_reducible refine (c1 _ HA.out).mono ?_); clear c1; rintro e w2 ⟨rfl, hb2⟩; have HB2 := Lib.hid (BA.out.trans (hb2.mono BA.out.size)); have d0 := cell_new hb2 0 rfl; have d1 := cell_new hb2 1 rfl; have d2 := cell_new hb2 2 rfl; have d3 := cell_new hb2 3 rfl; clear hb2))
      go_region_law (go_simp; go_at_call 69; ((with_reducible refine (c2 w2 HB2.out _ _ (by simp) (by simp) (by first | exact ((Below.refl _ _).alloc (Nat.le_refl _) _).drew | exact ((Below.refl _ _).drew).alloc (Nat.le_refl _) _)).mono ?_); rintro e w3 ⟨ao, cp, rfl, hR3, hb3⟩))
      all_goals
        go_wp2_with (fail)
        go_ret
        exact ⟨_, _, rfl, hR3, hb3⟩

set_option maxHeartbeats 3200000 in
theorem upd_put (a : Option Addr) (cap : Nat) (l : List Pr) (k hi v : Int) (w : World) (h : Prs w a cap l) (hl : l.length ≤ 1200000) (m : Nat) (L : Lo l k m) (B : Bool) (h1 : hasB l k m = B) (R : List Pr) (hR : l.take m ++ ([(k, v)] ++ l.drop (bh m B)) = R) :
    Calls Try.prog 62 #[.slice a l.length cap, .agg #[.int .i64 1, .int .i64 k, .int .i64 hi, .int .i64 v]] w (RowIs w R) := by
  have ba : Below w.heap.size w (w.alloc (.cells #[.int .i64 1, .int .i64 k, .int .i64 hi, .int .i64 v] 25)) := (Below.refl _ _).alloc (Nat.le_refl _) _
  have c1 := fun W h => place_any a cap l k W h (by omega) m L B h1
  have ht2 : bh m B ≤ l.length := by rw [← h1]; exact bh_le L
  have hml := L.le
  have HH := Lib.hid h
  have hc := h.1
  have hcm := h.2.1
  unfold maxLen at hcm
  have HA := Lib.hid (h.below ba)
  have BA := Lib.hid ba
  clear h L h1 ba
  cases B
  · simp only [bh, Bool.false_eq_true, if_false, if_true] at ht2 hR
    obtain ⟨hT, hTl⟩ := prs_takeL HH.out m hml
    have hlR : R.length ≤ 3000000 := by subst hR; simp; omega
    have hk0 : (0 : Int) ≤ (m : Int) := by omega
    have hk1 : (m : Int) ≤ (cap : Int) := by omega
    have hk2 : (m : Int) ≤ (l.length : Int) := by omega
    have hk3 : (l.length : Int) ≤ (cap : Int) := by omega
    by_cases hct : cap = m
    · obtain ⟨hD, hDl⟩ : Prs w a 0 (l.drop m) ∧ (l.drop m).length = 0 := by
        have e : l.drop m = [] := List.drop_eq_nil_iff.2 (by omega)
        rw [e]; exact ⟨prs_empty HH.out (Nat.zero_le _), rfl⟩
      have HT := Lib.hid hT
      have HD := Lib.hid hD
      have HX := Lib.hid (And.intro hR hlR)
      have c2 : ∀ w2, Below w.heap.size w w2 → ∀ g W g2, W.cell? ⟨g2, 0, none⟩ = some (.int .i64 k) → W.cell? ⟨g2, 1, none⟩ = some (.int .i64 v) → W.cell? ⟨g, 0, none⟩ = some (.slice a m cap) → W.cell? ⟨g, 1, none⟩ = some (.slice (some ⟨g2, 0, none⟩) 1 1) → W.cell? ⟨g, 2, none⟩ = some (.slice a 0 0) → Below w2.heap.size w2 W → Calls Try.prog 69 #[.slice (some ⟨g, 0, none⟩) 3 3] W (RowIs w R) :=
        fun w2 hw g W g2 x0 x1 d0 d1 d2 hb => cat3 hw (hT.below hw) hTl.symm (hD.below hw) hDl.symm hR hlR g W (prs_one x0 x1) d0 d1 d2 hb
      clear hT hD hR hlR hTl hDl
      subst hct
      go_enter Try.func62, Try.ntmps62
      go_wp2_with (go_at_call 68; ((with_reducible refine (c1 _ HA.out).mono ?_); clear c1; rintro e w2 ⟨rfl, hb2⟩; have HB2 := Lib.hid (BA.out.trans (hb2.mono BA.out.size)); have d0 := cell_new hb2 0 rfl; have d1 := cell_new hb2 1 rfl; have d2 := cell_new hb2 2 rfl; have d3 := cell_new hb2 3 rfl; clear hb2))
      go_region_law (go_simp; go_at_call 69; ((with_reducible refine (c2 w2 HB2.out _ _ w2.heap.size (by simp) (by simp) (by simp) (by simp) (by simp) (by first | exact (((Below.refl _ _).alloc (Nat.le_refl _) _).alloc (by simp) _).drew | exact (((Below.refl _ _).drew).alloc (Nat.le_refl _) _).alloc (by simp) _)).mono ?_); rintro e w3 ⟨ao, cp, rfl, hR3, hb3⟩))
      all_goals
        go_wp2_with (fail)
        go_ret
        exact ⟨_, _, rfl, hR3, hb3⟩
    · obtain ⟨hD, hDl⟩ : Prs w (Option.map (fun z => z.add (m * 2)) a) (cap - m) (l.drop m) ∧ (l.drop m).length = (l.length - m) := by
        have := prs_sub HH.out m l.length ht2 (Nat.le_refl _) hct
        rwa [List.take_of_length_le (by rw [List.length_drop]; exact Nat.le_refl _)] at this
      have hcI : ¬ (cap : Int) = (m : Int) := by omega
      have HT := Lib.hid hT
      have HD := Lib.hid hD
      have HX := Lib.hid (And.intro hR hlR)
      have c2 : ∀ w2, Below w.heap.size w w2 → ∀ g W g2, W.cell? ⟨g2, 0, none⟩ = some (.int .i64 k) → W.cell? ⟨g2, 1, none⟩ = some (.int .i64 v) → W.cell? ⟨g, 0, none⟩ = some (.slice a m cap) → W.cell? ⟨g, 1, none⟩ = some (.slice (some ⟨g2, 0, none⟩) 1 1) → W.cell? ⟨g, 2, none⟩ = some (.slice (Option.map (fun z => z.add (m * 2)) a) (l.length - m) (cap - m)) → Below w2.heap.size w2 W → Calls Try.prog 69 #[.slice (some ⟨g, 0, none⟩) 3 3] W (RowIs w R) :=
        fun w2 hw g W g2 x0 x1 d0 d1 d2 hb => cat3 hw (hT.below hw) hTl.symm (hD.below hw) hDl.symm hR hlR g W (prs_one x0 x1) d0 d1 d2 hb
      clear hT hD hR hlR hTl hDl
      go_enter Try.func62, Try.ntmps62
      go_wp2_with (go_at_call 68; ((with_reducible refine (c1 _ HA.out).mono ?_); clear c1; rintro e w2 ⟨rfl, hb2⟩; have HB2 := Lib.hid (BA.out.trans (hb2.mono BA.out.size)); have d0 := cell_new hb2 0 rfl; have d1 := cell_new hb2 1 rfl; have d2 := cell_new hb2 2 rfl; have d3 := cell_new hb2 3 rfl; clear hb2))
      go_region_law (go_simp; go_at_call 69; ((with_reducible refine (c2 w2 HB2.out _ _ w2.heap.size (by simp) (by simp) (by simp) (by simp) (by simp) (by first | exact (((Below.refl _ _).alloc (Nat.le_refl _) _).alloc (by simp) _).drew | exact (((Below.refl _ _).drew).alloc (Nat.le_refl _) _).alloc (by simp) _)).mono ?_); rintro e w3 ⟨ao, cp, rfl, hR3, hb3⟩))
      all_goals
        go_wp2_with (fail)
        go_ret
        exact ⟨_, _, rfl, hR3, hb3⟩
  · simp only [bh, Bool.false_eq_true, if_false, if_true] at ht2 hR
    obtain ⟨hT, hTl⟩ := prs_takeL HH.out m hml
    have hlR : R.length ≤ 3000000 := by subst hR; simp; omega
    have hk0 : (0 : Int) ≤ (m : Int) := by omega
    have hk1 : (m : Int) ≤ (cap : Int) := by omega
    have hk2 : (m : Int) ≤ (l.length : Int) := by omega
    have hk3 : (l.length : Int) ≤ (cap : Int) := by omega
    have hw1 : wrap64 ((m : Int) + 1) = (m : Int) + 1 := by unfold wrap64; omega
    have hk4 : (0 : Int) ≤ (m : Int) + 1 := by omega
    have hk5 : (m : Int) + 1 ≤ (l.length : Int) := by omega
    have hk6 : ((m : Int) + 1).toNat = m + 1 := by omega
    have hk7 : (m : Int) ≤ (m : Int) + 1 := by omega
    by_cases hct : cap = (m + 1)
    · obtain ⟨hD, hDl⟩ : Prs w a 0 (l.drop (m + 1)) ∧ (l.drop (m + 1)).length = 0 := by
        have e : l.drop (m + 1) = [] := List.drop_eq_nil_iff.2 (by omega)
        rw [e]; exact ⟨prs_empty HH.out (Nat.zero_le _), rfl⟩
      have HT := Lib.hid hT
      have HD := Lib.hid hD
      have HX := Lib.hid (And.intro hR hlR)
      have c2 : ∀ w2, Below w.heap.size w w2 → ∀ g W g2, W.cell? ⟨g2, 0, none⟩ = some (.int .i64 k) → W.cell? ⟨g2, 1, none⟩ = some (.int .i64 v) → W.cell? ⟨g, 0, none⟩ = some (.slice a m cap) → W.cell? ⟨g, 1, none⟩ = some (.slice (some ⟨g2, 0, none⟩) 1 1) → W.cell? ⟨g, 2, none⟩ = some (.slice a 0 0) → Below w2.heap.size w2 W → Calls Try.prog 69 #[.slice (some ⟨g, 0, none⟩) 3 3] W (RowIs w R) :=
        fun w2 hw g W g2 x0 x1 d0 d1 d2 hb => cat3 hw (hT.below hw) hTl.symm (hD.below hw) hDl.symm hR hlR g W (prs_one x0 x1) d0 d1 d2 hb
      clear hT hD hR hlR hTl hDl
      subst hct
      go_enter Try.func62, Try.ntmps62
      go_wp2_with (go_at_call 68; ((with_reducible refine (c1 _ HA.out).mono ?_); clear c1; rintro e w2 ⟨rfl, hb2⟩; have HB2 := Lib.hid (BA.out.trans (hb2.mono BA.out.size)); have d0 := cell_new hb2 0 rfl; have d1 := cell_new hb2 1 rfl; have d2 := cell_new hb2 2 rfl; have d3 := cell_new hb2 3 rfl; clear hb2))
      go_region_law (go_simp; go_at_call 69; ((with_reducible refine (c2 w2 HB2.out _ _ w2.heap.size (by simp) (by simp) (by simp) (by simp) (by simp) (by first | exact (((Below.refl _ _).alloc (Nat.le_refl _) _).alloc (by simp) _).drew | exact (((Below.refl _ _).drew).alloc (Nat.le_refl _) _).alloc (by simp) _)).mono ?_); rintro e w3 ⟨ao, cp, rfl, hR3, hb3⟩))
      all_goals
        go_wp2_with (fail)
        go_ret
        exact ⟨_, _, rfl, hR3, hb3⟩
    · obtain ⟨hD, hDl⟩ : Prs w (Option.map (fun z => z.add ((m + 1) * 2)) a) (cap - (m + 1)) (l.drop (m + 1)) ∧ (l.drop (m + 1)).length = (l.length - (m + 1)) := by
        have := prs_sub HH.out (m + 1) l.length ht2 (Nat.le_refl _) hct
        rwa [List.take_of_length_le (by rw [List.length_drop]; exact Nat.le_refl _)] at this
      have hcI : ¬ (cap : Int) = ((m : Int) + 1) := by omega
      have HT := Lib.hid hT
      have HD := Lib.hid hD
      have HX := Lib.hid (And.intro hR hlR)
      have c2 : ∀ w2, Below w.heap.size w w2 → ∀ g W g2, W.cell? ⟨g2, 0, none⟩ = some (.int .i64 k) → W.cell? ⟨g2, 1, none⟩ = some (.int .i64 v) → W.cell? ⟨g, 0, none⟩ = some (.slice a m cap) → W.cell? ⟨g, 1, none⟩ = some (.slice (some ⟨g2, 0, none⟩) 1 1) → W.cell? ⟨g, 2, none⟩ = some (.slice (Option.map (fun z => z.add ((m + 1) * 2)) a) (l.length - (m + 1)) (cap - (m + 1))) → Below w2.heap.size w2 W → Calls Try.prog 69 #[.slice (some ⟨g, 0, none⟩) 3 3] W (RowIs w R) :=
        fun w2 hw g W g2 x0 x1 d0 d1 d2 hb => cat3 hw (hT.below hw) hTl.symm (hD.below hw) hDl.symm hR hlR g W (prs_one x0 x1) d0 d1 d2 hb
      clear hT hD hR hlR hTl hDl
      go_enter Try.func62, Try.ntmps62
      go_wp2_with (go_at_call 68; ((with_reducible refine (c1 _ HA.out).mono ?_); clear c1; rintro e w2 ⟨rfl, hb2⟩; have HB2 := Lib.hid (BA.out.trans (hb2.mono BA.out.size)); have d0 := cell_new hb2 0 rfl; have d1 := cell_new hb2 1 rfl; have d2 := cell_new hb2 2 rfl; have d3 := cell_new hb2 3 rfl; clear hb2))
      go_region_law (go_simp; go_at_call 69; ((with_reducible refine (c2 w2 HB2.out _ _ w2.heap.size (by simp) (by simp) (by simp) (by simp) (by simp) (by first | exact (((Below.refl _ _).alloc (Nat.le_refl _) _).alloc (by simp) _).drew | exact (((Below.refl _ _).drew).alloc (Nat.le_refl _) _).alloc (by simp) _)).mono ?_); rintro e w3 ⟨ao, cp, rfl, hR3, hb3⟩))
      all_goals
        go_wp2_with (fail)
        go_ret
        exact ⟨_, _, rfl, hR3, hb3⟩

set_option maxHeartbeats 3200000 in
theorem upd_add (a : Option Addr) (cap : Nat) (l : List Pr) (k hi v : Int) (w : World) (h : Prs w a cap l) (hl : l.length ≤ 1200000) (m : Nat) (L : Lo l k m) (h1 : hasB l k m = false) (R : List Pr) (hR : l.take m ++ ([(k, v)] ++ l.drop (bh m false)) = R) :
    Calls Try.prog 62 #[.slice a l.length cap, .agg #[.int .i64 2, .int .i64 k, .int .i64 hi, .int .i64 v]] w (RowIs w R) := by
  have ba : Below w.heap.size w (w.alloc (.cells #[.int .i64 2, .int .i64 k, .int .i64 hi, .int .i64 v] 25)) := (Below.refl _ _).alloc (Nat.le_refl _) _
  have c1 := fun W h => place_any a cap l k W h (by omega) m L false h1
  have ht2 : bh m false ≤ l.length := by rw [← h1]; exact bh_le L
  have hml := L.le
  have HH := Lib.hid h
  have hc := h.1
  have hcm := h.2.1
  unfold maxLen at hcm
  have HA := Lib.hid (h.below ba)
  have BA := Lib.hid ba
  clear h L h1 ba
  · simp only [bh, Bool.false_eq_true, if_false, if_true] at ht2 hR
    obtain ⟨hT, hTl⟩ := prs_takeL HH.out m hml
    have hlR : R.length ≤ 3000000 := by subst hR; simp; omega
    have hk0 : (0 : Int) ≤ (m : Int) := by omega
    have hk1 : (m : Int) ≤ (cap : Int) := by omega
    have hk2 : (m : Int) ≤ (l.length : Int) := by omega
    have hk3 : (l.length : Int) ≤ (cap : Int) := by omega
    by_cases hct : cap = m
    · obtain ⟨hD, hDl⟩ : Prs w a 0 (l.drop m) ∧ (l.drop m).length = 0 := by
        have e : l.drop m = [] := List.drop_eq_nil_iff.2 (by omega)
        rw [e]; exact ⟨prs_empty HH.out (Nat.zero_le _), rfl⟩
      have HT := Lib.hid hT
      have HD := Lib.hid hD
      have HX := Lib.hid (And.intro hR hlR)
      have c2 : ∀ w2, Below w.heap.size w w2 → ∀ g W g2, W.cell? ⟨g2, 0, none⟩ = some (.int .i64 k) → W.cell? ⟨g2, 1, none⟩ = some (.int .i64 v) → W.cell? ⟨g, 0, none⟩ = some (.slice a m cap) → W.cell? ⟨g, 1, none⟩ = some (.slice (some ⟨g2, 0, none⟩) 1 1) → W.cell? ⟨g, 2, none⟩ = some (.slice a 0 0) → Below w2.heap.size w2 W → Calls Try.prog 69 #[.slice (some ⟨g, 0, none⟩) 3 3] W (RowIs w R) :=
        fun w2 hw g W g2 x0 x1 d0 d1 d2 hb => cat3 hw (hT.below hw) hTl.symm (hD.below hw) hDl.symm hR hlR g W (prs_one x0 x1) d0 d1 d2 hb
      clear hT hD hR hlR hTl hDl
      subst hct
      go_enter Try.func62, Try.ntmps62
      go_wp2_with (go_at_call 68; ((with_reducible refine (c1 _ HA.out).mono ?_); clear c1; rintro e w2 ⟨rfl, hb2⟩; have HB2 := Lib.hid (BA.out.trans (hb2.mono BA.out.size)); have d0 := cell_new hb2 0 rfl; have d1 := cell_new hb2 1 rfl; have d2 := cell_new hb2 2 rfl; have d3 := cell_new hb2 3 rfl; clear hb2))
      go_region_law (go_simp; go_at_call 69; ((with_reducible refine (c2 w2 HB2.out _ _ w2.heap.size (by simp) (by simp) (by simp) (by simp) (by simp) (by first | exact (((Below.refl _ _).alloc (Nat.le_refl _) _).alloc (by simp) _).drew | exact (((Below.refl _ _).drew).alloc (Nat.le_refl _) _).alloc (by simp) _)).mono ?_); rintro e w3 ⟨ao, cp, rfl, hR3, hb3⟩))
      all_goals
        go_wp2_with (fail)
        go_ret
        exact ⟨_, _, rfl, hR3, hb3⟩
    · obtain ⟨hD, hDl⟩ : Prs w (Option.map (fun z => z.add (m * 2)) a) (cap - m) (l.drop m) ∧ (l.drop m).length = (l.length - m) := by
        have := prs_sub HH.out m l.length ht2 (Nat.le_refl _) hct
        rwa [List.take_of_length_le (by rw [List.length_drop]; exact Nat.le_refl _)] at this
      have hcI : ¬ (cap : Int) = (m : Int) := by omega
      have HT := Lib.hid hT
      have HD := Lib.hid hD
      have HX := Lib.hid (And.intro hR hlR)
      have c2 : ∀ w2, Below w.heap.size w w2 → ∀ g W g2, W.cell? ⟨g2, 0, none⟩ = some (.int .i64 k) → W.cell? ⟨g2, 1, none⟩ = some (.int .i64 v) → W.cell? ⟨g, 0, none⟩ = some (.slice a m cap) → W.cell? ⟨g, 1, none⟩ = some (.slice (some ⟨g2, 0, none⟩) 1 1) → W.cell? ⟨g, 2, none⟩ = some (.slice (Option.map (fun z => z.add (m * 2)) a) (l.length - m) (cap - m)) → Below w2.heap.size w2 W → Calls Try.prog 69 #[.slice (some ⟨g, 0, none⟩) 3 3] W (RowIs w R) :=
        fun w2 hw g W g2 x0 x1 d0 d1 d2 hb => cat3 hw (hT.below hw) hTl.symm (hD.below hw) hDl.symm hR hlR g W (prs_one x0 x1) d0 d1 d2 hb
      clear hT hD hR hlR hTl hDl
      go_enter Try.func62, Try.ntmps62
      go_wp2_with (go_at_call 68; ((with_reducible refine (c1 _ HA.out).mono ?_); clear c1; rintro e w2 ⟨rfl, hb2⟩; have HB2 := Lib.hid (BA.out.trans (hb2.mono BA.out.size)); have d0 := cell_new hb2 0 rfl; have d1 := cell_new hb2 1 rfl; have d2 := cell_new hb2 2 rfl; have d3 := cell_new hb2 3 rfl; clear hb2))
      go_region_law (go_simp; go_at_call 69; ((with_reducible refine (c2 w2 HB2.out _ _ w2.heap.size (by simp) (by simp) (by simp) (by simp) (by simp) (by first | exact (((Below.refl _ _).alloc (Nat.le_refl _) _).alloc (by simp) _).drew | exact (((Below.refl _ _).drew).alloc (Nat.le_refl _) _).alloc (by simp) _)).mono ?_); rintro e w3 ⟨ao, cp, rfl, hR3, hb3⟩))
      all_goals
        go_wp2_with (fail)
        go_ret
        exact ⟨_, _, rfl, hR3, hb3⟩

/-- leaf.updated of sorted pairs. -/
theorem updated_any (a : Option Addr) (cap : Nat) (l : List Pr) (c k hi v : Int) (w : World) (h : Prs w a cap l) (hs : Srt l) (hl : l.length ≤ 1200000) (ho : okOp c) (h3 : c ≤ 3) :
    Calls Try.prog 62 #[.slice a l.length cap, .agg #[.int .i64 c, .int .i64 k, .int .i64 hi, .int .i64 v]] w (RowIs w (doP l c k v)) := by
  have L := lo_pl hs k
  by_cases hc3 : c = 3
  · rw [doP_cut hs ho k v hc3]
    subst hc3
    exact upd_cut a cap l k hi v w h hl _ L _ rfl _ (cut_at hs L)
  by_cases hc2 : c = 2
  · rw [doP_add hs ho k v hc2]
    subst hc2
    cases hB : hasB l k (plN l k)
    · rw [hadL_no hs L hB, if_neg (by decide)]
      have e := with_at hs L v
      rw [hB] at e
      exact upd_add a cap l k hi v w h hl _ L hB _ e
    · obtain ⟨u, hq⟩ := hasB_yes hB
      rw [hadL_yes L hq, if_pos rfl]
      exact upd_same a cap l k hi v w h hl _ L hB _ rfl
  · obtain rfl : c = 1 := by have := ho.1; omega
    rw [doP_put hs ho k v rfl]
    exact upd_put a cap l k hi v w h hl _ L _ rfl _ (with_at hs L v)
end Go.Proofs.Ytadfnbmogobopaa
