/- leaf.MayOp, Updates, told over sorted pairs. No condition: lemmas. -/
import Derived.Test.YtadfnbmogobopaaLfE
namespace Go.Proofs.Ytadfnbmogobopaa
open Go.RowKit
set_option linter.all false

theorem lmayop_any (c k hi v : Int) (w : World) (B : Bool) (hB : decide (okOp c) = B) :
    Calls Try.prog 56 #[.agg #[.int .i64 c, .int .i64 k, .int .i64 hi, .int .i64 v]] w fun e w' => e = .returned (.bool B) ∧ Below w.heap.size w w' := by
  have ba : Below w.heap.size w (w.alloc (.cells #[.int .i64 c, .int .i64 k, .int .i64 hi, .int .i64 v] 25)) := (Below.refl _ _).alloc (Nat.le_refl _) _
  by_cases h1 : 1 ≤ c
  · by_cases h2 : c ≤ 8
    · have hBt : B = true := by rw [← hB]; exact decide_eq_true ⟨h1, h2⟩
      subst hBt
      clear hB
      go_enter Try.func56, Try.ntmps56
      go_wp2_with (fail)
      go_ret
      exact ⟨rfl, ba⟩
    · have hBt : B = false := by rw [← hB]; exact decide_eq_false (fun h => h2 h.2)
      subst hBt
      clear hB
      go_enter Try.func56, Try.ntmps56
      go_wp2_with (fail)
      go_ret
      exact ⟨rfl, ba⟩
  · have hBt : B = false := by rw [← hB]; exact decide_eq_false (fun h => h1 h.1)
    subst hBt
    clear hB
    go_enter Try.func56, Try.ntmps56
    go_wp2_with (fail)
    go_ret
    exact ⟨rfl, ba⟩

theorem rmayop_any (c k hi v : Int) (w : World) (B : Bool) (hB : decide (okOp c) = B) :
    Calls Try.prog 11 #[.agg #[.int .i64 c, .int .i64 k, .int .i64 hi, .int .i64 v]] w fun e w' => e = .returned (.bool B) ∧ Below w.heap.size w w' := by
  have ba : Below w.heap.size w (w.alloc (.cells #[.int .i64 c, .int .i64 k, .int .i64 hi, .int .i64 v] 25)) := (Below.refl _ _).alloc (Nat.le_refl _) _
  by_cases h1 : 1 ≤ c
  · by_cases h2 : c ≤ 8
    · have hBt : B = true := by rw [← hB]; exact decide_eq_true ⟨h1, h2⟩
      subst hBt
      clear hB
      go_enter Try.func11, Try.ntmps11
      go_wp2_with (fail)
      go_ret
      exact ⟨rfl, ba⟩
    · have hBt : B = false := by rw [← hB]; exact decide_eq_false (fun h => h2 h.2)
      subst hBt
      clear hB
      go_enter Try.func11, Try.ntmps11
      go_wp2_with (fail)
      go_ret
      exact ⟨rfl, ba⟩
  · have hBt : B = false := by rw [← hB]; exact decide_eq_false (fun h => h1 h.1)
    subst hBt
    clear hB
    go_enter Try.func11, Try.ntmps11
    go_wp2_with (fail)
    go_ret
    exact ⟨rfl, ba⟩

theorem lupd_any (c k hi v : Int) (w : World) (B : Bool) (hB : decide (1 ≤ c ∧ c ≤ 3) = B) :
    Calls Try.prog 61 #[.agg #[.int .i64 c, .int .i64 k, .int .i64 hi, .int .i64 v]] w fun e w' => e = .returned (.bool B) ∧ Below w.heap.size w w' := by
  have ba : Below w.heap.size w (w.alloc (.cells #[.int .i64 c, .int .i64 k, .int .i64 hi, .int .i64 v] 25)) := (Below.refl _ _).alloc (Nat.le_refl _) _
  by_cases h1 : c = 1
  · subst h1
    have hBt : B = true := by rw [← hB]; exact decide_eq_true (by omega)
    subst hBt
    clear hB
    go_enter Try.func61, Try.ntmps61
    go_wp2_with (fail)
    go_ret
    exact ⟨rfl, ba⟩
  have e1 : (c == 1) = false := by simpa using h1
  by_cases h2 : c = 2
  · subst h2
    have hBt : B = true := by rw [← hB]; exact decide_eq_true (by omega)
    subst hBt
    clear hB
    go_enter Try.func61, Try.ntmps61
    go_wp2_with (fail)
    go_ret
    exact ⟨rfl, ba⟩
  have e2 : (c == 2) = false := by simpa using h2
  by_cases h3 : c = 3
  · subst h3
    have hBt : B = true := by rw [← hB]; exact decide_eq_true (by omega)
    subst hBt
    clear hB
    go_enter Try.func61, Try.ntmps61
    go_wp2_with (fail)
    go_ret
    exact ⟨rfl, ba⟩
  have e3 : (c == 3) = false := by simpa using h3
  have hBt : B = false := by rw [← hB]; exact decide_eq_false (by omega)
  subst hBt
  clear hB
  clear h1 h2 h3
  go_enter Try.func61, Try.ntmps61
  go_wp2_with (fail)
  go_ret
  exact ⟨rfl, ba⟩

/-- What tells an answer; its pairs lie in memory of their own. -/
def TellIs (w : World) (D : Ad) (e : Ending) (w' : World) : Prop :=
  ∃ aa ca, e = .returned (D.val aa ca) ∧ PRow w' (fun j => j < w.heap.size) (.slice aa D.ps.length ca) D.ps ∧ Below w.heap.size w w'
theorem ab0 {w W : World} {o1 o2 : Obj} (hb : Below ((w.alloc o1).alloc o2).heap.size ((w.alloc o1).alloc o2) W) : Below w.heap.size w W := by
  have h1 : Below w.heap.size w ((w.alloc o1).alloc o2) := ((Below.refl _ _).alloc (Nat.le_refl _) _).alloc (by simp) _
  exact h1.trans (hb.mono h1.size)
theorem op_after {w W : World} {c k hi v : Int} {o2 : Obj} (hb : Below ((w.alloc (.cells #[.int .i64 c, .int .i64 k, .int .i64 hi, .int .i64 v] 25)).alloc o2).heap.size ((w.alloc (.cells #[.int .i64 c, .int .i64 k, .int .i64 hi, .int .i64 v] 25)).alloc o2) W) :
    W.cell? ⟨w.heap.size, 0, none⟩ = some (.int .i64 c) ∧ W.cell? ⟨w.heap.size, 1, none⟩ = some (.int .i64 k) ∧ W.cell? ⟨w.heap.size, 2, none⟩ = some (.int .i64 hi) ∧ W.cell? ⟨w.heap.size, 3, none⟩ = some (.int .i64 v) := by
  refine ⟨cell_past hb ?_, cell_past hb ?_, cell_past hb ?_, cell_past hb ?_⟩ <;> simp
theorem ac_after {w W : World} {o1 : Obj} (hb : Below ((w.alloc o1).alloc (.cells #[.int .i64 0, .bool false, .int .i64 0, .int .i64 0, .int .i64 0, .slice none 0 0] 34)).heap.size ((w.alloc o1).alloc (.cells #[.int .i64 0, .bool false, .int .i64 0, .int .i64 0, .int .i64 0, .slice none 0 0] 34)) W) :
    AC W (w.heap.size + 1) 0 false 0 0 0 (.slice none 0 0) := by
  have h := AC.new (w.alloc o1) 34
  have e : (w.alloc o1).heap.size = w.heap.size + 1 := by simp
  rw [e] at h
  exact h.keep hb

set_option maxHeartbeats 3200000 in
theorem told_get (a : Option Addr) (cap : Nat) (l : List Pr) (k hi v : Int) (w : World) (h : Prs w a cap l) (hl : l.length ≤ 1200000) (hs : Srt l) :
    Calls Try.prog 64 #[.slice a l.length cap, .agg #[.int .i64 4, .int .i64 k, .int .i64 hi, .int .i64 v]] w fun e w' => e = .returned ((hadD l k).val none 0) ∧ Below w.heap.size w w' := by
  have ba : Below w.heap.size w ((w.alloc (.cells #[.int .i64 4, .int .i64 k, .int .i64 hi, .int .i64 v] 25)).alloc (.cells #[.int .i64 0, .bool false, .int .i64 0, .int .i64 0, .int .i64 0, .slice none 0 0] 34)) := ((Below.refl _ _).alloc (Nat.le_refl _) _).alloc (by simp) _
  have HA := Lib.hid (h.below ba)
  have hc := h.1
  have hcm := h.2.1
  unfold maxLen at hcm
  have c1 := fun W h => had_any a cap l k W h hs (by omega)
  unfold hadD Ad.val at c1 ⊢
  dsimp only at c1 ⊢
  generalize hadL l k = z at c1 ⊢
  obtain ⟨x0, x1, x2⟩ := z
  dsimp only [List.length_nil] at c1 ⊢
  clear h
  go_enter Try.func64, Try.ntmps64
  go_wp2_with (go_at_call 63; ((with_reducible refine (c1 _ HA.out).mono ?_); clear c1; rintro e w2 ⟨rfl, hb2⟩; have HB2 := Lib.hid hb2; have HC := Lib.hid (ac_after hb2); obtain ⟨z0, z1, z2, z3, z4, z5, f0, f1, f2, f3, f4, f5⟩ := ac_after hb2; obtain ⟨p0, p1, p2, p3⟩ := op_after hb2; clear hb2))
  obtain ⟨Wf, hWf, r, rb⟩ := HC.out.put 0 x0 x1 x2 0 (.slice none 0 0)
  rw [← hWf]
  obtain ⟨r0, r1, r2, r3, r4, r5, -, -, -, -, -, -⟩ := r
  refine bodyPost_ret (v := .agg #[.int .i64 0, .bool x0, .int .i64 x1, .int .i64 x2, .int .i64 0, .slice none 0 0]) (by simp [results, Try.results64, go_sem, r0, r1, r2, r3, r4, r5]) rfl ⟨rfl, (ab0 HB2.out).trans (rb.mono (by omega))⟩

set_option maxHeartbeats 3200000 in
theorem told_rng (a : Option Addr) (cap : Nat) (l : List Pr) (k hi v : Int) (w : World) (h : Prs w a cap l) (hl : l.length ≤ 1200000) (hs : Srt l) :
    Calls Try.prog 64 #[.slice a l.length cap, .agg #[.int .i64 5, .int .i64 k, .int .i64 hi, .int .i64 v]] w (TellIs w ⟨0, false, 0, 0, (rngL l k hi).length, rngL l k hi⟩) := by
  have ba : Below w.heap.size w ((w.alloc (.cells #[.int .i64 5, .int .i64 k, .int .i64 hi, .int .i64 v] 25)).alloc (.cells #[.int .i64 0, .bool false, .int .i64 0, .int .i64 0, .int .i64 0, .slice none 0 0] 34)) := ((Below.refl _ _).alloc (Nat.le_refl _) _).alloc (by simp) _
  have HA := Lib.hid (h.below ba)
  have hc := h.1
  have hcm := h.2.1
  unfold maxLen at hcm
  have c1 := fun W h => lwithin_any a cap l k hi W h hs (by omega)
  obtain ⟨R, hR⟩ : ∃ R, rngL l k hi = R := ⟨_, rfl⟩
  have hRl : R.length ≤ 1200000 := by rw [← hR]; exact Nat.le_trans (rngL_len l k hi) hl
  rw [hR] at c1
  rw [hR]
  clear hR
  clear h
  go_enter Try.func64, Try.ntmps64
  go_wp2_with (first
    | (go_at_call 70; ((with_reducible refine (c1 _ HA.out).mono ?_); clear c1; rintro e w2 ⟨a2, cap2, rfl, hP2, hb2⟩; have HP2 := Lib.hid hP2; have HB2 := Lib.hid hb2; have HC := Lib.hid (ac_after hb2); obtain ⟨z0, z1, z2, z3, z4, z5, f0, f1, f2, f3, f4, f5⟩ := ac_after hb2; obtain ⟨p0, p1, p2, p3⟩ := op_after hb2; clear hb2 hP2))
    | (go_at_call 60; ((with_reducible refine (copied_any a2 cap2 R _ HP2.out (by omega)).mono ?_); rintro e w3 ⟨ao, cp, rfl, hR3, hb3⟩; have HR3 := Lib.hid hR3; have HB3 := Lib.hid hb3; have HC3 := Lib.hid (HC.out.keep hb3); clear z0 z1 z2 z3 z4 z5 f0 f1 f2 f3 f4 f5 p0 p1 p2 p3; obtain ⟨z0, z1, z2, z3, z4, z5, f0, f1, f2, f3, f4, f5⟩ := HC.out.keep hb3; clear hR3 hb3)))
  obtain ⟨Wf, hWf, r, rb⟩ := HC3.out.put 0 false 0 0 R.length (.slice ao R.length cp)
  rw [← hWf]
  obtain ⟨r0, r1, r2, r3, r4, r5, -, -, -, -, -, -⟩ := r
  refine bodyPost_ret (v := .agg #[.int .i64 0, .bool false, .int .i64 0, .int .i64 0, .int .i64 R.length, .slice ao R.length cp]) (by simp [results, Try.results64, go_sem, r0, r1, r2, r3, r4, r5]) rfl ?_
  have hb4 := (ab0 HB2.out).trans (HB3.out.mono (ab0 HB2.out).size)
  refine ⟨ao, cp, rfl, ?_, hb4.trans (rb.mono (by omega))⟩
  have hlt : w.heap.size + 1 < w2.heap.size := HC.out.lt
  exact HR3.out.put (putO hWf) (Nat.le_succ _) (fun k hk => Nat.lt_of_le_of_lt hk hlt)

set_option maxHeartbeats 3200000 in
theorem told_cnt (a : Option Addr) (cap : Nat) (l : List Pr) (k hi v : Int) (w : World) (h : Prs w a cap l) (hl : l.length ≤ 1200000) (hs : Srt l) :
    Calls Try.prog 64 #[.slice a l.length cap, .agg #[.int .i64 6, .int .i64 k, .int .i64 hi, .int .i64 v]] w fun e w' => e = .returned ((⟨0, false, 0, 0, (rngL l k hi).length, []⟩ : Ad).val none 0) ∧ Below w.heap.size w w' := by
  have ba : Below w.heap.size w ((w.alloc (.cells #[.int .i64 6, .int .i64 k, .int .i64 hi, .int .i64 v] 25)).alloc (.cells #[.int .i64 0, .bool false, .int .i64 0, .int .i64 0, .int .i64 0, .slice none 0 0] 34)) := ((Below.refl _ _).alloc (Nat.le_refl _) _).alloc (by simp) _
  have HA := Lib.hid (h.below ba)
  have hc := h.1
  have hcm := h.2.1
  unfold maxLen at hcm
  have c1 := fun W h => lwithin_any a cap l k hi W h hs (by omega)
  obtain ⟨R, hR⟩ : ∃ R, rngL l k hi = R := ⟨_, rfl⟩
  rw [hR] at c1
  rw [hR]
  clear hR
  clear h
  go_enter Try.func64, Try.ntmps64
  go_wp2_with (go_at_call 70; ((with_reducible refine (c1 _ HA.out).mono ?_); clear c1; rintro e w2 ⟨a2, cap2, rfl, hP2, hb2⟩; have HB2 := Lib.hid hb2; have HC := Lib.hid (ac_after hb2); obtain ⟨z0, z1, z2, z3, z4, z5, f0, f1, f2, f3, f4, f5⟩ := ac_after hb2; obtain ⟨p0, p1, p2, p3⟩ := op_after hb2; clear hb2 hP2))
  obtain ⟨Wf, hWf, r, rb⟩ := HC.out.put 0 false 0 0 R.length (.slice none 0 0)
  rw [← hWf]
  obtain ⟨r0, r1, r2, r3, r4, r5, -, -, -, -, -, -⟩ := r
  refine bodyPost_ret (v := .agg #[.int .i64 0, .bool false, .int .i64 0, .int .i64 0, .int .i64 R.length, .slice none 0 0]) (by simp [results, Try.results64, go_sem, r0, r1, r2, r3, r4, r5]) rfl ⟨rfl, (ab0 HB2.out).trans (rb.mono (by omega))⟩

set_option maxHeartbeats 3200000 in
theorem told_min0 (a : Option Addr) (cap : Nat) (l : List Pr) (k hi v : Int) (w : World) (h : Prs w a cap l) (hl : l.length ≤ 1200000) (hn : l.length = 0) :
    Calls Try.prog 64 #[.slice a l.length cap, .agg #[.int .i64 7, .int .i64 k, .int .i64 hi, .int .i64 v]] w fun e w' => e = .returned (.agg #[.int .i64 0, .bool false, .int .i64 0, .int .i64 0, .int .i64 0, .slice none 0 0]) ∧ Below w.heap.size w w' := by
  have ba : Below w.heap.size w ((w.alloc (.cells #[.int .i64 7, .int .i64 k, .int .i64 hi, .int .i64 v] 25)).alloc (.cells #[.int .i64 0, .bool false, .int .i64 0, .int .i64 0, .int .i64 0, .slice none 0 0] 34)) := ((Below.refl _ _).alloc (Nat.le_refl _) _).alloc (by simp) _
  have HA := Lib.hid (h.below ba)
  have hc := h.1
  have hcm := h.2.1
  unfold maxLen at hcm
  have hn' : ((l.length : Int) == 0) = true := by simp [hn]
  clear hl hc hcm
  clear h
  go_enter Try.func64, Try.ntmps64
  go_wp2_with (fail)
  exact bodyPost_ret (v := .agg #[.int .i64 0, .bool false, .int .i64 0, .int .i64 0, .int .i64 0, .slice none 0 0]) (by simp [results, Try.results64, go_sem]) rfl ⟨rfl, ((Below.refl _ _).alloc (Nat.le_refl _) _).alloc (by simp) _⟩

set_option maxHeartbeats 3200000 in
theorem told_min (a : Option Addr) (cap : Nat) (l : List Pr) (k hi v : Int) (w : World) (h : Prs w a cap l) (hl : l.length ≤ 1200000) (q : Pr) (hq : l[0]? = some q) :
    Calls Try.prog 64 #[.slice a l.length cap, .agg #[.int .i64 7, .int .i64 k, .int .i64 hi, .int .i64 v]] w fun e w' => e = .returned (.agg #[.int .i64 0, .bool true, .int .i64 q.1, .int .i64 q.2, .int .i64 0, .slice none 0 0]) ∧ Below w.heap.size w w' := by
  have ba : Below w.heap.size w ((w.alloc (.cells #[.int .i64 7, .int .i64 k, .int .i64 hi, .int .i64 v] 25)).alloc (.cells #[.int .i64 0, .bool false, .int .i64 0, .int .i64 0, .int .i64 0, .slice none 0 0] 34)) := ((Below.refl _ _).alloc (Nat.le_refl _) _).alloc (by simp) _
  have HA := Lib.hid (h.below ba)
  have hc := h.1
  have hcm := h.2.1
  unfold maxLen at hcm
  have hlt := (List.getElem?_eq_some_iff.1 hq).1
  have hn' : ((l.length : Int) == 0) = false := by rw [beq_eq_false_iff_ne]; omega
  have hi0 : (0 : Int) < (l.length : Int) := by omega
  obtain ⟨b, o, rfl, c0, c1⟩ := HA.out.2.2.1 0 q hq
  obtain ⟨q0, q1⟩ := q
  dsimp only at c0 c1 ⊢
  rw [Nat.zero_mul, Nat.add_zero] at c0 c1
  have HM := Lib.hid hlt
  clear hl hc hcm hq hlt
  clear h
  go_enter Try.func64, Try.ntmps64
  go_wp2_with (fail)
  exact bodyPost_ret (v := .agg #[.int .i64 0, .bool true, .int .i64 q0, .int .i64 q1, .int .i64 0, .slice none 0 0]) (by simp [results, Try.results64, go_sem]) rfl ⟨rfl, ((Below.refl _ _).alloc (Nat.le_refl _) _).alloc (by simp) _⟩

set_option maxHeartbeats 3200000 in
theorem told_max0 (a : Option Addr) (cap : Nat) (l : List Pr) (k hi v : Int) (w : World) (h : Prs w a cap l) (hl : l.length ≤ 1200000) (hn : l.length = 0) :
    Calls Try.prog 64 #[.slice a l.length cap, .agg #[.int .i64 8, .int .i64 k, .int .i64 hi, .int .i64 v]] w fun e w' => e = .returned (.agg #[.int .i64 0, .bool false, .int .i64 0, .int .i64 0, .int .i64 0, .slice none 0 0]) ∧ Below w.heap.size w w' := by
  have ba : Below w.heap.size w ((w.alloc (.cells #[.int .i64 8, .int .i64 k, .int .i64 hi, .int .i64 v] 25)).alloc (.cells #[.int .i64 0, .bool false, .int .i64 0, .int .i64 0, .int .i64 0, .slice none 0 0] 34)) := ((Below.refl _ _).alloc (Nat.le_refl _) _).alloc (by simp) _
  have HA := Lib.hid (h.below ba)
  have hc := h.1
  have hcm := h.2.1
  unfold maxLen at hcm
  have hn' : ((l.length : Int) == 0) = true := by simp [hn]
  clear hl hc hcm
  clear h
  go_enter Try.func64, Try.ntmps64
  go_wp2_with (fail)
  exact bodyPost_ret (v := .agg #[.int .i64 0, .bool false, .int .i64 0, .int .i64 0, .int .i64 0, .slice none 0 0]) (by simp [results, Try.results64, go_sem]) rfl ⟨rfl, ((Below.refl _ _).alloc (Nat.le_refl _) _).alloc (by simp) _⟩

set_option maxHeartbeats 3200000 in
theorem told_max (a : Option Addr) (cap : Nat) (l : List Pr) (k hi v : Int) (w : World) (h : Prs w a cap l) (hl : l.length ≤ 1200000) (q : Pr) (hq : l[(l.length - 1)]? = some q) :
    Calls Try.prog 64 #[.slice a l.length cap, .agg #[.int .i64 8, .int .i64 k, .int .i64 hi, .int .i64 v]] w fun e w' => e = .returned (.agg #[.int .i64 0, .bool true, .int .i64 q.1, .int .i64 q.2, .int .i64 0, .slice none 0 0]) ∧ Below w.heap.size w w' := by
  have ba : Below w.heap.size w ((w.alloc (.cells #[.int .i64 8, .int .i64 k, .int .i64 hi, .int .i64 v] 25)).alloc (.cells #[.int .i64 0, .bool false, .int .i64 0, .int .i64 0, .int .i64 0, .slice none 0 0] 34)) := ((Below.refl _ _).alloc (Nat.le_refl _) _).alloc (by simp) _
  have HA := Lib.hid (h.below ba)
  have hc := h.1
  have hcm := h.2.1
  unfold maxLen at hcm
  have hlt := (List.getElem?_eq_some_iff.1 hq).1
  have hn' : ((l.length : Int) == 0) = false := by rw [beq_eq_false_iff_ne]; omega
  have hi0 : (0 : Int) < (l.length : Int) := by omega
  obtain ⟨m, hm⟩ : ∃ m, l.length = m + 1 := ⟨l.length - 1, by omega⟩
  have hw1 : IntKind.i64.wrap ((l.length : Int) - 1) = (m : Int) := by rw [IntKind.wrap_i64]; omega
  have hw2 : wrap64 ((l.length : Int) - 1) = (m : Int) := by unfold wrap64; omega
  have hi1 : (m : Int) < (l.length : Int) := by omega
  have hi2 : (0 : Int) ≤ (m : Int) := by omega
  rw [hm, Nat.add_sub_cancel] at hq
  have hw3 : wrap64 (m : Int) = (m : Int) := by unfold wrap64; omega
  have HMM := Lib.hid hm
  clear hm
  obtain ⟨b, o, rfl, c0, c1⟩ := HA.out.2.2.1 m q hq
  obtain ⟨q0, q1⟩ := q
  dsimp only at c0 c1 ⊢
  have HM := Lib.hid hlt
  clear hl hc hcm hq hlt
  clear h
  go_enter Try.func64, Try.ntmps64
  go_wp2_with (fail)
  exact bodyPost_ret (v := .agg #[.int .i64 0, .bool true, .int .i64 q0, .int .i64 q1, .int .i64 0, .slice none 0 0]) (by simp [results, Try.results64, go_sem]) rfl ⟨rfl, ((Below.refl _ _).alloc (Nat.le_refl _) _).alloc (by simp) _⟩

theorem tell_of {w : World} {D : Ad} {e : Ending} {w' : World} (hD : D.ps = []) (h : e = .returned (D.val none 0) ∧ Below w.heap.size w w') : TellIs w D e w' :=
  ⟨none, 0, h.1, by rw [hD]; exact PRow.nil _ _, h.2⟩
/-- leaf.told of sorted pairs. -/
theorem told_any (a : Option Addr) (cap : Nat) (l : List Pr) (c k hi v : Int) (w : World) (h : Prs w a cap l) (hs : Srt l) (hl : l.length ≤ 1200000) (ho : okOp c) (h3 : 4 ≤ c) :
    Calls Try.prog 64 #[.slice a l.length cap, .agg #[.int .i64 c, .int .i64 k, .int .i64 hi, .int .i64 v]] w (TellIs w (doA l c k hi)) := by
  have h8 := ho.2
  rcases (show c = 4 ∨ c = 5 ∨ c = 6 ∨ c = 7 ∨ c = 8 by omega) with rfl | rfl | rfl | rfl | rfl
  · rw [doA_had hs ho k hi (by decide)]
    exact (told_get a cap l k hi v w h hl hs).mono (fun e w' h => tell_of rfl h)
  · rw [doA_rng hs ho k hi rfl]
    exact told_rng a cap l k hi v w h hl hs
  · rw [doA_cnt hs ho k hi rfl]
    exact (told_cnt a cap l k hi v w h hl hs).mono (fun e w' h => tell_of rfl h)
  · rw [doA_min hs ho k hi rfl]
    cases hq : l[0]? with
    | none => exact (told_min0 a cap l k hi v w h hl (by have := List.getElem?_eq_none_iff.1 hq; omega)).mono (fun e w' h => tell_of rfl h)
    | some q => exact (told_min a cap l k hi v w h hl q hq).mono (fun e w' h => tell_of rfl h)
  · rw [doA_max hs ho k hi rfl]
    cases hq : l[l.length - 1]? with
    | none => exact (told_max0 a cap l k hi v w h hl (by have := List.getElem?_eq_none_iff.1 hq; omega)).mono (fun e w' h => tell_of rfl h)
    | some q => exact (told_max a cap l k hi v w h hl q hq).mono (fun e w' h => tell_of rfl h)
end Go.Proofs.Ytadfnbmogobopaa
