/- leaf.Do over any pairs. No condition: lemmas. -/
import Derived.Test.YtadfnbmogobopaaLfF
namespace Go.Proofs.Ytadfnbmogobopaa
open Go.RowKit
set_option linter.all false

/-- What does an operation: the pairs that it leaves, what it tells; each row in memory of its own. -/
def DoIs (w : World) (L : List Pr) (D : Ad) (e : Ending) (w' : World) : Prop :=
  ∃ ao cp aa ca, e = .returned (.tuple #[.slice ao L.length cp, D.val aa ca]) ∧ PRow w' (fun j => j < w.heap.size) (.slice ao L.length cp) L ∧ PRow w' (fun j => j < w.heap.size) (.slice aa D.ps.length ca) D.ps ∧ Below w.heap.size w w'

theorem cell_keep {W W' : World} {q : Addr} {v : Value} (h : W.cell? q = some v) (hb : Below W.heap.size W W') : W'.cell? q = some v := (hb.cell (World.block_lt_of_cell? W q h)).trans h

set_option maxHeartbeats 3200000 in
theorem do_bad1 (a : Option Addr) (cap : Nat) (l : List Pr) (c k hi v : Int) (w : World) (h : Prs w a cap l) (hl : l.length ≤ 1200000) (hs : ¬ Srt l) :
    Calls Try.prog 50 #[.slice a l.length cap, .agg #[.int .i64 c, .int .i64 k, .int .i64 hi, .int .i64 v]] w (DoIs w l ⟨1, false, 0, 0, 0, []⟩) := by
  have ba : Below w.heap.size w ((w.alloc (.cells #[.int .i64 c, .int .i64 k, .int .i64 hi, .int .i64 v] 25)).alloc (.cells #[.int .i64 0, .bool false, .int .i64 0, .int .i64 0, .int .i64 0, .slice none 0 0] 34)) := ((Below.refl _ _).alloc (Nat.le_refl _) _).alloc (by simp) _
  have HA := Lib.hid (h.below ba)
  have c1 := fun W h => lmay_any a cap l W h false (decide_eq_false hs)
  have c3 := fun W h => copied_any a cap l W h (by omega)
  clear h hs
  go_enter Try.func50, Try.ntmps50
  go_wp2_with (first
    | (go_at_call 18; ((with_reducible refine (c1 _ HA.out).mono ?_); clear c1; rintro e w2 ⟨rfl, hb2⟩; have HB2 := Lib.hid hb2; have HC := Lib.hid (ac_after hb2); obtain ⟨p0, p1, p2, p3⟩ := op_after hb2; clear hb2))
    | (go_at_call 60; ((with_reducible refine (c3 _ (HA.out.below HB2.out)).mono ?_); clear c3; rintro e w4 ⟨ao, cp, rfl, hR4, hb4⟩; have HR4 := Lib.hid hR4; have HB4 := Lib.hid hb4; have HC4 := Lib.hid (HC.out.keep hb4); obtain ⟨z0, z1, z2, z3, z4, z5, f0, f1, f2, f3, f4, f5⟩ := HC.out.keep hb4; clear hR4 hb4)))
  obtain ⟨Wf, hWf, r, rb⟩ := HC4.out.put 1 false 0 0 0 (.slice none 0 0)
  rw [← hWf]
  obtain ⟨r0, r1, r2, r3, r4, r5, -, -, -, -, -, -⟩ := r
  refine bodyPost_ret (v := .tuple #[.slice ao l.length cp, .agg #[.int .i64 1, .bool false, .int .i64 0, .int .i64 0, .int .i64 0, .slice none 0 0]]) (by simp [results, Try.results50, go_sem, r0, r1, r2, r3, r4, r5]) rfl ?_
  have hlt : w.heap.size + 1 < _ := HC.out.lt
  exact ⟨ao, cp, none, 0, rfl, HR4.out.put (putO hWf) (Nat.le_succ _) (fun k hk => Nat.lt_of_le_of_lt hk hlt), PRow.nil _ _, ((ab0 HB2.out).trans (HB4.out.mono (ab0 HB2.out).size)).trans (rb.mono (by omega))⟩

set_option maxHeartbeats 3200000 in
theorem do_bad2 (a : Option Addr) (cap : Nat) (l : List Pr) (c k hi v : Int) (w : World) (h : Prs w a cap l) (hl : l.length ≤ 1200000) (hs : Srt l) (ho : ¬ okOp c) :
    Calls Try.prog 50 #[.slice a l.length cap, .agg #[.int .i64 c, .int .i64 k, .int .i64 hi, .int .i64 v]] w (DoIs w l ⟨1, false, 0, 0, 0, []⟩) := by
  have ba : Below w.heap.size w ((w.alloc (.cells #[.int .i64 c, .int .i64 k, .int .i64 hi, .int .i64 v] 25)).alloc (.cells #[.int .i64 0, .bool false, .int .i64 0, .int .i64 0, .int .i64 0, .slice none 0 0] 34)) := ((Below.refl _ _).alloc (Nat.le_refl _) _).alloc (by simp) _
  have HA := Lib.hid (h.below ba)
  have c1 := fun W h => lmay_any a cap l W h true (decide_eq_true hs)
  have c2 := fun W => lmayop_any c k hi v W false (decide_eq_false ho)
  have c3 := fun W h => copied_any a cap l W h (by omega)
  clear h hs ho
  go_enter Try.func50, Try.ntmps50
  go_wp2_with (first
    | (go_at_call 18; ((with_reducible refine (c1 _ HA.out).mono ?_); clear c1; rintro e w2 ⟨rfl, hb2⟩; have HB2 := Lib.hid hb2; have HC := Lib.hid (ac_after hb2); obtain ⟨p0, p1, p2, p3⟩ := op_after hb2; clear hb2))
    | (go_at_call 56; ((with_reducible refine (c2 _).mono ?_); clear c2; rintro e w3 ⟨rfl, hb3⟩; have HB3 := Lib.hid hb3))
    | (go_at_call 60; ((with_reducible refine (c3 _ ((HA.out.below HB2.out).below HB3.out)).mono ?_); clear c3; rintro e w4 ⟨ao, cp, rfl, hR4, hb4⟩; have HR4 := Lib.hid hR4; have HB4 := Lib.hid (HB3.out.trans (hb4.mono HB3.out.size)); have HC4 := Lib.hid (HC.out.keep HB4.out); obtain ⟨z0, z1, z2, z3, z4, z5, f0, f1, f2, f3, f4, f5⟩ := HC.out.keep HB4.out; clear hR4 hb4)))
  obtain ⟨Wf, hWf, r, rb⟩ := HC4.out.put 1 false 0 0 0 (.slice none 0 0)
  rw [← hWf]
  obtain ⟨r0, r1, r2, r3, r4, r5, -, -, -, -, -, -⟩ := r
  refine bodyPost_ret (v := .tuple #[.slice ao l.length cp, .agg #[.int .i64 1, .bool false, .int .i64 0, .int .i64 0, .int .i64 0, .slice none 0 0]]) (by simp [results, Try.results50, go_sem, r0, r1, r2, r3, r4, r5]) rfl ?_
  have hlt : w.heap.size + 1 < _ := Nat.lt_of_lt_of_le (HC.out.lt) HB3.out.size
  exact ⟨ao, cp, none, 0, rfl, HR4.out.put (putO hWf) (Nat.le_succ _) (fun k hk => Nat.lt_of_le_of_lt hk hlt), PRow.nil _ _, ((ab0 HB2.out).trans (HB4.out.mono (ab0 HB2.out).size)).trans (rb.mono (by omega))⟩

set_option maxHeartbeats 3200000 in
theorem do_upd (a : Option Addr) (cap : Nat) (l : List Pr) (c k hi v : Int) (w : World) (h : Prs w a cap l) (hl : l.length ≤ 1200000) (hs : Srt l) (ho : okOp c) (h3 : c ≤ 3) :
    Calls Try.prog 50 #[.slice a l.length cap, .agg #[.int .i64 c, .int .i64 k, .int .i64 hi, .int .i64 v]] w (DoIs w (doP l c k v) (hadD l k)) := by
  have ba : Below w.heap.size w ((w.alloc (.cells #[.int .i64 c, .int .i64 k, .int .i64 hi, .int .i64 v] 25)).alloc (.cells #[.int .i64 0, .bool false, .int .i64 0, .int .i64 0, .int .i64 0, .slice none 0 0] 34)) := ((Below.refl _ _).alloc (Nat.le_refl _) _).alloc (by simp) _
  have HA := Lib.hid (h.below ba)
  have c1 := fun W h => lmay_any a cap l W h true (decide_eq_true hs)
  have c2 := fun W => lmayop_any c k hi v W true (decide_eq_true ho)
  have c3 := fun W => lupd_any c k hi v W true (decide_eq_true ⟨ho.1, h3⟩)
  have c4 := fun W h => updated_any a cap l c k hi v W h hs hl ho h3
  have c5 := fun W h => had_any a cap l k W h hs (by omega)
  unfold hadD Ad.val at c5
  dsimp only at c5
  unfold hadD
  generalize hadL l k = z at c5 ⊢
  obtain ⟨x0, x1, x2⟩ := z
  dsimp only [List.length_nil] at c5 ⊢
  generalize doP l c k v = R at c4 ⊢
  clear h hs ho h3
  go_enter Try.func50, Try.ntmps50
  go_wp2_with (first
    | (go_at_call 18; ((with_reducible refine (c1 _ HA.out).mono ?_); clear c1; rintro e w2 ⟨rfl, hb2⟩; have HB2 := Lib.hid hb2; have HC := Lib.hid (ac_after hb2); obtain ⟨p0, p1, p2, p3⟩ := op_after hb2; clear hb2))
    | (go_at_call 56; ((with_reducible refine (c2 _).mono ?_); clear c2; rintro e w3 ⟨rfl, hb3⟩; have q0 := cell_keep p0 hb3; have q1 := cell_keep p1 hb3; have q2 := cell_keep p2 hb3; have q3 := cell_keep p3 hb3; have HB3 := Lib.hid hb3; clear hb3 p0 p1 p2 p3))
    | (go_at_call 61; ((with_reducible refine (c3 _).mono ?_); clear c3; rintro e w4 ⟨rfl, hb4⟩; have s0 := cell_keep q0 hb4; have s1 := cell_keep q1 hb4; have s2 := cell_keep q2 hb4; have s3 := cell_keep q3 hb4; have HB4 := Lib.hid (HB3.out.trans (hb4.mono HB3.out.size)); have HC4 := Lib.hid (HC.out.keep HB4.out); clear hb4 q0 q1 q2 q3)))
  have HP4 := Lib.hid ((HA.out.below HB2.out).below HB4.out)
  have S4 := Lib.hid (And.intro s0 (And.intro s1 (And.intro s2 s3)))
  go_region_with (first
    | (go_at_call 62; ((with_reducible refine (c4 _ (HP4.out.below HBH.out)).mono ?_); rintro e w6 ⟨ao, cp, rfl, hRu, hbu⟩; have HB6 := Lib.hid (HBH.out.trans (hbu.mono HBH.out.size)); have HR6 := Lib.hid (hRu.sub (S' := fun j => j < w4.heap.size) (fun k _ hk => Nat.lt_of_lt_of_le hk HBH.out.size)); obtain ⟨z0, z1, z2, z3, z4, z5, f0, f1, f2, f3, f4, f5⟩ := HC4.out.keep HB6.out; clear hRu hbu))
    | (go_at_call 62; ((with_reducible refine (c4 _ (HP4.out.below ((Below.refl _ _).drew))).mono ?_); rintro e wu ⟨ao, cp, rfl, hRu, hbu⟩; have HBU : Hid (Below w4.heap.size w4 wu) := Lib.hid (((Below.refl _ _).drew).trans hbu); have HRU : Hid (PRow wu (fun j => j < w4.heap.size) _ _) := Lib.hid hRu; have t0 := cell_keep S4.out.1 HBU.out; have t1 := cell_keep S4.out.2.1 HBU.out; have t2 := cell_keep S4.out.2.2.1 HBU.out; have t3 := cell_keep S4.out.2.2.2 HBU.out; clear hRu hbu))
    | (go_at_call 63; ((with_reducible refine (c5 _ (HP4.out.below HBU.out)).mono ?_); rintro e w6 ⟨rfl, hbh⟩; have HB6 := Lib.hid (HBU.out.trans (hbh.mono HBU.out.size)); have HR6 := Lib.hid (HRU.out.below hbh); obtain ⟨z0, z1, z2, z3, z4, z5, f0, f1, f2, f3, f4, f5⟩ := HC4.out.keep HB6.out; clear hbh))
    | (go_at_call 63; ((with_reducible refine (c5 _ (HP4.out.below ((Below.refl _ _).drew))).mono ?_); rintro e wh ⟨rfl, hbh⟩; have HBH : Hid (Below w4.heap.size w4 wh) := Lib.hid (((Below.refl _ _).drew).trans hbh); have t0 := cell_keep S4.out.1 HBH.out; have t1 := cell_keep S4.out.2.1 HBH.out; have t2 := cell_keep S4.out.2.2.1 HBH.out; have t3 := cell_keep S4.out.2.2.2 HBH.out; clear hbh)))
  all_goals
    go_wp2_with (fail)
    obtain ⟨Wf, hWf, r, rb⟩ := (HC4.out.keep HB6.out).put 0 x0 x1 x2 0 (.slice none 0 0)
    rw [← hWf]
    obtain ⟨r0, r1, r2, r3, r4, r5, -, -, -, -, -, -⟩ := r
    refine bodyPost_ret (v := .tuple #[.slice ao R.length cp, .agg #[.int .i64 0, .bool x0, .int .i64 x1, .int .i64 x2, .int .i64 0, .slice none 0 0]]) (by simp [results, Try.results50, go_sem, r0, r1, r2, r3, r4, r5]) rfl ?_
    have hlt : w.heap.size + 1 < w4.heap.size := HC4.out.lt
    exact ⟨ao, cp, none, 0, rfl, HR6.out.put (putO hWf) (Nat.le_succ _) (fun k hk => Nat.lt_of_le_of_lt hk hlt), PRow.nil _ _, (((ab0 HB2.out).trans (HB4.out.mono (ab0 HB2.out).size)).trans (HB6.out.mono ((ab0 HB2.out).trans (HB4.out.mono (ab0 HB2.out).size)).size)).trans (rb.mono (by omega))⟩

set_option maxHeartbeats 3200000 in
theorem do_read (a : Option Addr) (cap : Nat) (l : List Pr) (c k hi v : Int) (w : World) (h : Prs w a cap l) (hl : l.length ≤ 1200000) (hs : Srt l) (ho : okOp c) (h3 : ¬ c ≤ 3) :
    Calls Try.prog 50 #[.slice a l.length cap, .agg #[.int .i64 c, .int .i64 k, .int .i64 hi, .int .i64 v]] w (DoIs w l (doA l c k hi)) := by
  have ba : Below w.heap.size w ((w.alloc (.cells #[.int .i64 c, .int .i64 k, .int .i64 hi, .int .i64 v] 25)).alloc (.cells #[.int .i64 0, .bool false, .int .i64 0, .int .i64 0, .int .i64 0, .slice none 0 0] 34)) := ((Below.refl _ _).alloc (Nat.le_refl _) _).alloc (by simp) _
  have HA := Lib.hid (h.below ba)
  have c1 := fun W h => lmay_any a cap l W h true (decide_eq_true hs)
  have c2 := fun W => lmayop_any c k hi v W true (decide_eq_true ho)
  have c3 := fun W => lupd_any c k hi v W false (decide_eq_false (fun hh => h3 hh.2))
  have c4 := fun W h => copied_any a cap l W h (by omega)
  have c5 := fun W h => told_any a cap l c k hi v W h hs hl ho (by omega)
  generalize doA l c k hi = D at c5 ⊢
  obtain ⟨e0, x0, x1, x2, n, ps⟩ := D
  unfold TellIs Ad.val at c5
  dsimp only at c5
  clear h hs ho h3
  go_enter Try.func50, Try.ntmps50
  go_wp2_with (first
    | (go_at_call 18; ((with_reducible refine (c1 _ HA.out).mono ?_); clear c1; rintro e w2 ⟨rfl, hb2⟩; have HB2 := Lib.hid hb2; have HC := Lib.hid (ac_after hb2); obtain ⟨p0, p1, p2, p3⟩ := op_after hb2; clear hb2))
    | (go_at_call 56; ((with_reducible refine (c2 _).mono ?_); clear c2; rintro e w3 ⟨rfl, hb3⟩; have q0 := cell_keep p0 hb3; have q1 := cell_keep p1 hb3; have q2 := cell_keep p2 hb3; have q3 := cell_keep p3 hb3; have HB3 := Lib.hid hb3; clear hb3 p0 p1 p2 p3))
    | (go_at_call 61; ((with_reducible refine (c3 _).mono ?_); clear c3; rintro e w4 ⟨rfl, hb4⟩; have s0 := cell_keep q0 hb4; have s1 := cell_keep q1 hb4; have s2 := cell_keep q2 hb4; have s3 := cell_keep q3 hb4; have HB4 := Lib.hid (HB3.out.trans (hb4.mono HB3.out.size)); have HC4 := Lib.hid (HC.out.keep HB4.out); clear hb4 q0 q1 q2 q3)))
  have HP4 := Lib.hid ((HA.out.below HB2.out).below HB4.out)
  have S4 := Lib.hid (And.intro s0 (And.intro s1 (And.intro s2 s3)))
  go_region_with (first
    | (go_at_call 60; ((with_reducible refine (c4 _ (HP4.out.below HBH.out)).mono ?_); rintro e w6 ⟨ao, cp, rfl, hRu, hbu⟩; have HB6 := Lib.hid (HBH.out.trans (hbu.mono HBH.out.size)); have HR6 := Lib.hid (hRu.sub (S' := fun j => j < w4.heap.size) (fun k _ hk => Nat.lt_of_lt_of_le hk HBH.out.size)); have HT6 := Lib.hid (HTH.out.below hbu); obtain ⟨z0, z1, z2, z3, z4, z5, f0, f1, f2, f3, f4, f5⟩ := HC4.out.keep HB6.out; clear hRu hbu))
    | (go_at_call 60; ((with_reducible refine (c4 _ (HP4.out.below ((Below.refl _ _).drew))).mono ?_); rintro e wu ⟨ao, cp, rfl, hRu, hbu⟩; have HBU : Hid (Below w4.heap.size w4 wu) := Lib.hid (((Below.refl _ _).drew).trans hbu); have HRU : Hid (PRow wu (fun j => j < w4.heap.size) _ _) := Lib.hid hRu; have t0 := cell_keep S4.out.1 HBU.out; have t1 := cell_keep S4.out.2.1 HBU.out; have t2 := cell_keep S4.out.2.2.1 HBU.out; have t3 := cell_keep S4.out.2.2.2 HBU.out; clear hRu hbu))
    | (go_at_call 64; ((with_reducible refine (c5 _ (HP4.out.below HBU.out)).mono ?_); rintro e w6 ⟨aa, ca, rfl, hRt, hbh⟩; have HB6 := Lib.hid (HBU.out.trans (hbh.mono HBU.out.size)); have HR6 := Lib.hid (HRU.out.below hbh); have HT6 := Lib.hid (hRt.sub (S' := fun j => j < w4.heap.size) (fun k _ hk => Nat.lt_of_lt_of_le hk HBU.out.size)); obtain ⟨z0, z1, z2, z3, z4, z5, f0, f1, f2, f3, f4, f5⟩ := HC4.out.keep HB6.out; clear hbh hRt))
    | (go_at_call 64; ((with_reducible refine (c5 _ (HP4.out.below ((Below.refl _ _).drew))).mono ?_); rintro e wh ⟨aa, ca, rfl, hRt, hbh⟩; have HBH : Hid (Below w4.heap.size w4 wh) := Lib.hid (((Below.refl _ _).drew).trans hbh); have HTH : Hid (PRow wh (fun j => j < w4.heap.size) _ _) := Lib.hid hRt; have t0 := cell_keep S4.out.1 HBH.out; have t1 := cell_keep S4.out.2.1 HBH.out; have t2 := cell_keep S4.out.2.2.1 HBH.out; have t3 := cell_keep S4.out.2.2.2 HBH.out; clear hbh hRt)))
  all_goals
    go_wp2_with (fail)
    obtain ⟨Wf, hWf, r, rb⟩ := (HC4.out.keep HB6.out).put e0 x0 x1 x2 n (.slice aa ps.length ca)
    rw [← hWf]
    obtain ⟨r0, r1, r2, r3, r4, r5, -, -, -, -, -, -⟩ := r
    refine bodyPost_ret (v := .tuple #[.slice ao l.length cp, .agg #[.int .i64 e0, .bool x0, .int .i64 x1, .int .i64 x2, .int .i64 n, .slice aa ps.length ca]]) (by simp [results, Try.results50, go_sem, r0, r1, r2, r3, r4, r5]) rfl ?_
    have hlt : w.heap.size + 1 < w4.heap.size := HC4.out.lt
    exact ⟨ao, cp, aa, ca, rfl, HR6.out.put (putO hWf) (Nat.le_succ _) (fun k hk => Nat.lt_of_le_of_lt hk hlt), HT6.out.put (putO hWf) (Nat.le_succ _) (fun k hk => Nat.lt_of_le_of_lt hk hlt), (((ab0 HB2.out).trans (HB4.out.mono (ab0 HB2.out).size)).trans (HB6.out.mono ((ab0 HB2.out).trans (HB4.out.mono (ab0 HB2.out).size)).size)).trans (rb.mono (by omega))⟩

/-- leaf.Do. -/
theorem ldo_any (a : Option Addr) (cap : Nat) (l : List Pr) (c k hi v : Int) (w : World) (h : Prs w a cap l) (hl : l.length ≤ 1200000) :
    Calls Try.prog 50 #[.slice a l.length cap, .agg #[.int .i64 c, .int .i64 k, .int .i64 hi, .int .i64 v]] w (DoIs w (doP l c k v) (doA l c k hi)) := by
  by_cases hs : Srt l
  · by_cases ho : okOp c
    · by_cases h3 : c ≤ 3
      · rw [doA_had hs ho k hi (by omega)]
        exact do_upd a cap l c k hi v w h hl hs ho h3
      · rw [doP_read hs ho k v (by omega)]
        exact do_read a cap l c k hi v w h hl hs ho h3
    · rw [doA_bad (fun x => ho x.2), doP_bad (fun x => ho x.2)]
      exact do_bad2 a cap l c k hi v w h hl hs ho
  · rw [doA_bad (fun x => hs x.1), doP_bad (fun x => hs x.1)]
    exact do_bad1 a cap l c k hi v w h hl hs
end Go.Proofs.Ytadfnbmogobopaa
