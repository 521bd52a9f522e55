/- Package stat: After. -/
import Derived.Test.YtppahbgoecldmaaStG
namespace Go.Proofs.Ytppahbgoecldmaa
open Go.RowKit Go.ChangeShapes Go.WideShapes Go.ChangeAt
set_option linter.all false
theorem af_step (c u m s : Int) (l : List Int) (k : Nat) (x : Int) (hx : l[k]? = some x) : af c u m s (l.take (k + 1)) = hm (af c u m s (l.take k) + chg c u m x) := by
  unfold af
  rw [List.take_add_one, hx, List.foldl_append]
  rfl
theorem af_bd (c u m s : Int) (l : List Int) : -1000000 ≤ af c u m s l ∧ af c u m s l ≤ 1000000 := by
  rcases List.eq_nil_or_concat l with rfl | ⟨l', x, rfl⟩
  · exact ⟨hm_lo s, hm_hi s⟩
  · unfold af
    simp only [List.concat_eq_append, List.foldl_append, List.foldl_cons, List.foldl_nil]
    exact ⟨hm_lo _, hm_hi _⟩
theorem chg_bd {h l c u m : Int} (B : Bd h l c u m) (k : Int) : -100000 ≤ chg c u m k ∧ chg c u m k ≤ 100000 := by
  obtain ⟨h0, h1, l0, l1, c0, c1, u0, u1, m0, m1⟩ := B
  unfold chg
  split
  · omega
  split
  · omega
  split <;> omega
set_option maxRecDepth 100000 in
set_option maxHeartbeats 3200000 in
theorem after_to (h l c u m h' l' c' u' m' n : Int) (a : Option Addr) (cap : Nat) (zs : List Int) (e : Cl h l c u m h' l' c' u' m') (w : World) (R : RI w a cap zs) :
    Calls Try.prog 13 #[.agg #[.int .i64 h, .int .i64 l, .int .i64 c, .int .i64 u, .int .i64 m], .int .i64 n, .slice a zs.length cap] w fun e w' => e = .returned (.int .i64 (af c' u' m' n zs)) ∧ Below w.heap.size w w' := by
  have HC := Lib.hid e
  have HR := Lib.hid R
  have hc1 := R.1
  have hc2 := R.2.1
  unfold maxLen at hc2
  clear e R
  go_enter Try.func13, Try.ntmps13
  go_wp2_with (first
    | (go_at_call 18; ((with_reducible refine (clamp_to _ _ _ _ _ _ _ _ _ _ HC.out _).mono ?_); rintro e W1 ⟨rfl, hb1⟩; have HF0 := (Fv.keep (Fv.new w 23 (h := h) (l := l) (c := c) (u := u) (m := m)) hb1); have hB1 := Lib.hid (bst ((Below.refl _ _).alloc (Nat.le_refl _) _) hb1); have HF1 := Lib.hid HF0; obtain ⟨⟨g0, g1, g2, g3, g4⟩, gf⟩ := HF0; have gf0 := gf 0 (by decide); have gf1 := gf 1 (by decide); have gf2 := gf 2 (by decide); have gf3 := gf 3 (by decide); have gf4 := gf 4 (by decide); clear gf hb1))
    | (go_at_call 19; ((with_reducible refine (held_any _ _).mono ?_); rintro e W2 ⟨rfl, hW2⟩; clear g0 g1 g2 g3 g4 gf0 gf1 gf2 gf3 gf4; have HF2 : Hid (Fv W2 w.heap.size h' l' c' u' m') := Lib.hid (by rw [hW2]; exact HF1.out.five); have HB2 : Hid (Below w.heap.size w W2) := Lib.hid (by rw [hW2]; exact below_five hB1.out (Nat.le_refl _)); clear hW2 HF1 hB1)))
  go_loopw [1, 15] (fun s i wr => ∃ (k : Nat) (x : Int), k ≤ zs.length ∧ i = .int .i64 k ∧ s = .int .i64 x ∧ af c' u' m' n (zs.take k) = x ∧ Pl wr w.heap.size h' l' c' u' m' ∧ Below w.heap.size w wr) (fun _ i _ => zs.length - (intOf i).toNat)
  case atStart => exact ⟨0, hm n, Nat.zero_le _, rfl, rfl, rfl, HF2.out.p, HB2.out⟩
  case round =>
    obtain ⟨k, x, hk, rfl, rfl, hx, hp, hb⟩ := hrel
    have hxb := af_bd c' u' m' n (zs.take k)
    rw [hx] at hxb
    obtain ⟨hx0, hx1⟩ := hxb
    have HX := Lib.hid hx
    have HB := Lib.hid hb
    have HP := Lib.hid hp
    clear hx hb
    by_cases hlt : k < zs.length
    · obtain ⟨v, hv⟩ : ∃ v, zs[k]? = some v := ⟨_, List.getElem?_eq_getElem hlt⟩
      obtain ⟨b, o, rfl, c0⟩ := (HR.out.below HB.out).2.2 k v hv
      have HV := Lib.hid hv
      clear hv
      obtain ⟨p0, p1, p2, p3, p4⟩ := hp
      have hcb := chg_bd HC.out.bd v
      obtain ⟨hd0, hd1⟩ := hcb
      have hchg := change_any h' l' c' u' m' v HC.out.bd
      obtain ⟨d, hd⟩ : ∃ d, chg c' u' m' v = d := ⟨_, rfl⟩
      rw [hd] at hchg hd0 hd1
      have HD := Lib.hid hd
      clear hd
      go_wp2_with (first
        | (go_at_call 20; ((with_reducible refine (hchg _).mono ?_); clear hchg; rintro e w3 ⟨rfl, hb3⟩))
        | (go_at_call 19; ((with_reducible refine (held_any _ _).mono ?_); rintro e w4 ⟨rfl, rfl⟩)))
      go_roundw
      case rel =>
        refine ⟨k + 1, _, hlt, by go_num, rfl, ?_, HP.out.keep hb3, bst HB.out hb3⟩
        rw [af_step _ _ _ _ _ _ _ HV.out, HX.out, HD.out]
      case measure => simp [intOf]; omega
    · obtain rfl : k = zs.length := by omega
      clear hp
      go_wp2_with (fail)
      go_ret
      have e2 : af c' u' m' n zs = x := by have := HX.out; rwa [List.take_length] at this
      rw [e2]
      exact ⟨rfl, HB.out⟩
theorem af_one (c u m s x : Int) : af c u m s [x] = nx c u m s x := rfl
theorem RI.one2 (w : World) (o : Obj) (x : Int) : RI ((w.alloc o).alloc (.cells #[.int .i64 x] 3)) (some ⟨w.heap.size + 1, 0, Option.none⟩) 1 [x] := by
  have := RI.one (w.alloc o) x
  rwa [World.size_alloc] at this
theorem after_one (h l c u m h' l' c' u' m' n k : Int) (b : Nat) (e : Cl h l c u m h' l' c' u' m') (w : World) (R : RI w (some ⟨b, 0, Option.none⟩) 1 [k]) :
    Calls Try.prog 13 #[.agg #[.int .i64 h, .int .i64 l, .int .i64 c, .int .i64 u, .int .i64 m], .int .i64 n, .slice (some ⟨b, 0, Option.none⟩) 1 1] w fun e w' => e = .returned (.int .i64 (nx c' u' m' n k)) ∧ Below w.heap.size w w' :=
  after_to h l c u m h' l' c' u' m' n _ 1 [k] e w R
set_option maxRecDepth 100000 in
set_option maxHeartbeats 3200000 in
theorem next_to (h l c u m h' l' c' u' m' n k : Int) (e : Cl h l c u m h' l' c' u' m') (w : World) :
    Calls Try.prog 10 #[.agg #[.int .i64 h, .int .i64 l, .int .i64 c, .int .i64 u, .int .i64 m], .int .i64 n, .int .i64 k] w fun e w' => e = .returned (.int .i64 (nx c' u' m' n k)) ∧ Below w.heap.size w w' := by
  have HC := Lib.hid e
  clear e
  go_enter Try.func10, Try.ntmps10
  go_wp2_with (first
    | (go_at_call 13; ((with_reducible refine (after_one _ _ _ _ _ h' l' c' u' m' _ k _ HC.out _ (RI.one2 _ _ _)).mono ?_); rintro e w3 ⟨rfl, hb3⟩)))
  go_ret
  exact ⟨rfl, bst (((Below.refl _ _).alloc (Nat.le_refl _) _).alloc (by simp) _) hb3⟩
set_option maxRecDepth 100000 in
set_option maxHeartbeats 3200000 in
theorem decide_to (h l c u m h' l' c' u' m' n : Int) (e : Cl h l c u m h' l' c' u' m') (w : World) :
    Calls Try.prog 11 #[.agg #[.int .i64 h, .int .i64 l, .int .i64 c, .int .i64 u, .int .i64 m], .int .i64 n] w fun e w' => e = .returned (.int .i64 (dc h' l' n)) ∧ Below w.heap.size w w' := by
  have B := e.bd
  have B0 := B.h0
  have B1 := B.h1
  have B2 := B.l0
  have B3 := B.l1
  clear B
  have HC := Lib.hid e
  clear e
  by_cases k1 : h' < n
  · have e : dc h' l' n = 1 := by unfold dc hm; rw [if_pos (by omega)]
    rw [e]
    clear e
    go_enter Try.func11, Try.ntmps11
    go_wp2_with (first
      | (go_at_call 18; ((with_reducible refine (clamp_to _ _ _ _ _ _ _ _ _ _ HC.out _).mono ?_); rintro e W1 ⟨rfl, hb1⟩; have HF0 := (Fv.keep (Fv.new w 23 (h := h) (l := l) (c := c) (u := u) (m := m)) hb1); have hB1 := Lib.hid (bst ((Below.refl _ _).alloc (Nat.le_refl _) _) hb1); obtain ⟨⟨g0, g1, g2, g3, g4⟩, gf⟩ := HF0; have gf0 := gf 0 (by decide); have gf1 := gf 1 (by decide); have gf2 := gf 2 (by decide); have gf3 := gf 3 (by decide); have gf4 := gf 4 (by decide); clear gf hb1)))
    go_ret
    exact ⟨rfl, below_five hB1.out (Nat.le_refl _)⟩
  by_cases k2 : n < l'
  · have e : dc h' l' n = 2 := by unfold dc hm; rw [if_neg (by omega), if_pos (by omega)]
    rw [e]
    clear e
    go_enter Try.func11, Try.ntmps11
    go_wp2_with (first
      | (go_at_call 18; ((with_reducible refine (clamp_to _ _ _ _ _ _ _ _ _ _ HC.out _).mono ?_); rintro e W1 ⟨rfl, hb1⟩; have HF0 := (Fv.keep (Fv.new w 23 (h := h) (l := l) (c := c) (u := u) (m := m)) hb1); have hB1 := Lib.hid (bst ((Below.refl _ _).alloc (Nat.le_refl _) _) hb1); obtain ⟨⟨g0, g1, g2, g3, g4⟩, gf⟩ := HF0; have gf0 := gf 0 (by decide); have gf1 := gf 1 (by decide); have gf2 := gf 2 (by decide); have gf3 := gf 3 (by decide); have gf4 := gf 4 (by decide); clear gf hb1)))
    go_ret
    exact ⟨rfl, below_five hB1.out (Nat.le_refl _)⟩
  have e : dc h' l' n = 0 := by unfold dc hm; rw [if_neg (by omega), if_neg (by omega)]
  rw [e]
  clear e
  go_enter Try.func11, Try.ntmps11
  go_wp2_with (first
    | (go_at_call 18; ((with_reducible refine (clamp_to _ _ _ _ _ _ _ _ _ _ HC.out _).mono ?_); rintro e W1 ⟨rfl, hb1⟩; have HF0 := (Fv.keep (Fv.new w 23 (h := h) (l := l) (c := c) (u := u) (m := m)) hb1); have hB1 := Lib.hid (bst ((Below.refl _ _).alloc (Nat.le_refl _) _) hb1); obtain ⟨⟨g0, g1, g2, g3, g4⟩, gf⟩ := HF0; have gf0 := gf 0 (by decide); have gf1 := gf 1 (by decide); have gf2 := gf 2 (by decide); have gf3 := gf 3 (by decide); have gf4 := gf 4 (by decide); clear gf hb1)))
  go_ret
  exact ⟨rfl, below_five hB1.out (Nat.le_refl _)⟩
set_option maxRecDepth 100000 in
set_option maxHeartbeats 3200000 in
theorem rdecide_to (h l c u m h' l' c' u' m' n : Int) (e : Cl h l c u m h' l' c' u' m') (w : World) :
    Calls Try.prog 12 #[.agg #[.int .i64 h, .int .i64 l, .int .i64 c, .int .i64 u, .int .i64 m], .int .i64 n] w fun e w' => e = .returned (.int .i64 (dc h' l' n)) ∧ Below w.heap.size w w' := by
  have HC := Lib.hid e
  clear e
  have hh := rhold_any n
  by_cases k1 : h' < hm n
  · have e : dc h' l' n = 1 := by unfold dc; rw [if_pos k1]
    rw [e]
    clear e
    generalize hm n = x at k1 hh
    go_enter Try.func12, Try.ntmps12
    go_wp2_with (first
      | (go_at_call 16; ((with_reducible refine (rclamp_to _ _ _ _ _ _ _ _ _ _ HC.out _).mono ?_); rintro e W1 ⟨rfl, hb1⟩; have HF0 := (Fv.keep (Fv.new w 23 (h := h) (l := l) (c := c) (u := u) (m := m)) hb1); have hB1 := Lib.hid (bst ((Below.refl _ _).alloc (Nat.le_refl _) _) hb1); obtain ⟨⟨g0, g1, g2, g3, g4⟩, gf⟩ := HF0; have gf0 := gf 0 (by decide); have gf1 := gf 1 (by decide); have gf2 := gf 2 (by decide); have gf3 := gf 3 (by decide); have gf4 := gf 4 (by decide); clear gf hb1))
      | (go_at_call 17; ((with_reducible refine (hh _).mono ?_); rintro e w4 ⟨rfl, rfl⟩)))
    go_ret
    exact ⟨rfl, below_five hB1.out (Nat.le_refl _)⟩
  by_cases k2 : hm n < l'
  · have e : dc h' l' n = 2 := by unfold dc; rw [if_neg k1, if_pos k2]
    rw [e]
    clear e
    generalize hm n = x at k1 k2 hh
    go_enter Try.func12, Try.ntmps12
    go_wp2_with (first
      | (go_at_call 16; ((with_reducible refine (rclamp_to _ _ _ _ _ _ _ _ _ _ HC.out _).mono ?_); rintro e W1 ⟨rfl, hb1⟩; have HF0 := (Fv.keep (Fv.new w 23 (h := h) (l := l) (c := c) (u := u) (m := m)) hb1); have hB1 := Lib.hid (bst ((Below.refl _ _).alloc (Nat.le_refl _) _) hb1); obtain ⟨⟨g0, g1, g2, g3, g4⟩, gf⟩ := HF0; have gf0 := gf 0 (by decide); have gf1 := gf 1 (by decide); have gf2 := gf 2 (by decide); have gf3 := gf 3 (by decide); have gf4 := gf 4 (by decide); clear gf hb1))
      | (go_at_call 17; ((with_reducible refine (hh _).mono ?_); rintro e w4 ⟨rfl, rfl⟩)))
    go_ret
    exact ⟨rfl, below_five hB1.out (Nat.le_refl _)⟩
  have e : dc h' l' n = 0 := by unfold dc; rw [if_neg k1, if_neg k2]
  rw [e]
  clear e
  generalize hm n = x at k1 k2 hh
  go_enter Try.func12, Try.ntmps12
  go_wp2_with (first
    | (go_at_call 16; ((with_reducible refine (rclamp_to _ _ _ _ _ _ _ _ _ _ HC.out _).mono ?_); rintro e W1 ⟨rfl, hb1⟩; have HF0 := (Fv.keep (Fv.new w 23 (h := h) (l := l) (c := c) (u := u) (m := m)) hb1); have hB1 := Lib.hid (bst ((Below.refl _ _).alloc (Nat.le_refl _) _) hb1); obtain ⟨⟨g0, g1, g2, g3, g4⟩, gf⟩ := HF0; have gf0 := gf 0 (by decide); have gf1 := gf 1 (by decide); have gf2 := gf 2 (by decide); have gf3 := gf 3 (by decide); have gf4 := gf 4 (by decide); clear gf hb1))
    | (go_at_call 17; ((with_reducible refine (hh _).mono ?_); rintro e w4 ⟨rfl, rfl⟩)))
  go_ret
  exact ⟨rfl, below_five hB1.out (Nat.le_refl _)⟩
set_option maxRecDepth 100000 in
set_option maxHeartbeats 3200000 in
theorem rnext_to (h l c u m h' l' c' u' m' n k : Int) (e : Cl h l c u m h' l' c' u' m') (w : World) :
    Calls Try.prog 9 #[.agg #[.int .i64 h, .int .i64 l, .int .i64 c, .int .i64 u, .int .i64 m], .int .i64 n, .int .i64 k] w fun e w' => e = .returned (.int .i64 (nx c' u' m' n k)) ∧ Below w.heap.size w w' := by
  have B := e.bd
  obtain ⟨-, -, -, -, c0, c1, u0, u1, m0, m1⟩ := B
  have HC := Lib.hid e
  clear e
  have hh := rhold_any n
  have x0 := hm_lo n
  have x1 := hm_hi n
  by_cases k1 : k = 1
  · have e : nx c' u' m' n k = hm (hm n + c') := by unfold nx chg; rw [if_pos k1]
    rw [e]
    clear e
    generalize hm n = x at x0 x1 hh ⊢
    subst k1
    go_enter Try.func9, Try.ntmps9
    go_wp2_with (first
      | (go_at_call 16; ((with_reducible refine (rclamp_to _ _ _ _ _ _ _ _ _ _ HC.out _).mono ?_); rintro e W1 ⟨rfl, hb1⟩; have HF0 := (Fv.keep (Fv.new w 23 (h := h) (l := l) (c := c) (u := u) (m := m)) hb1); have hB1 := Lib.hid (bst ((Below.refl _ _).alloc (Nat.le_refl _) _) hb1); obtain ⟨⟨g0, g1, g2, g3, g4⟩, gf⟩ := HF0; have gf0 := gf 0 (by decide); have gf1 := gf 1 (by decide); have gf2 := gf 2 (by decide); have gf3 := gf 3 (by decide); have gf4 := gf 4 (by decide); clear gf hb1))
      | (go_at_call 17; ((with_reducible refine (hh _).mono ?_); clear hh; rintro e w4 ⟨rfl, rfl⟩))
      | (go_at_call 17; ((with_reducible refine (rhold_any _ _).mono ?_); rintro e w4 ⟨rfl, rfl⟩)))
    go_ret
    exact ⟨rfl, below_five hB1.out (Nat.le_refl _)⟩
  by_cases k2 : k = 2
  · have e : nx c' u' m' n k = hm (hm n - u') := by unfold nx chg; rw [if_neg k1, if_pos k2, Int.sub_eq_add_neg]
    rw [e]
    clear e
    generalize hm n = x at x0 x1 hh ⊢
    subst k2
    go_enter Try.func9, Try.ntmps9
    go_wp2_with (first
      | (go_at_call 16; ((with_reducible refine (rclamp_to _ _ _ _ _ _ _ _ _ _ HC.out _).mono ?_); rintro e W1 ⟨rfl, hb1⟩; have HF0 := (Fv.keep (Fv.new w 23 (h := h) (l := l) (c := c) (u := u) (m := m)) hb1); have hB1 := Lib.hid (bst ((Below.refl _ _).alloc (Nat.le_refl _) _) hb1); obtain ⟨⟨g0, g1, g2, g3, g4⟩, gf⟩ := HF0; have gf0 := gf 0 (by decide); have gf1 := gf 1 (by decide); have gf2 := gf 2 (by decide); have gf3 := gf 3 (by decide); have gf4 := gf 4 (by decide); clear gf hb1))
      | (go_at_call 17; ((with_reducible refine (hh _).mono ?_); clear hh; rintro e w4 ⟨rfl, rfl⟩))
      | (go_at_call 17; ((with_reducible refine (rhold_any _ _).mono ?_); rintro e w4 ⟨rfl, rfl⟩)))
    go_ret
    exact ⟨rfl, below_five hB1.out (Nat.le_refl _)⟩
  by_cases k3 : k = 3
  · have e : nx c' u' m' n k = hm (hm n - m') := by unfold nx chg; rw [if_neg k1, if_neg k2, if_pos k3, Int.sub_eq_add_neg]
    rw [e]
    clear e
    generalize hm n = x at x0 x1 hh ⊢
    subst k3
    go_enter Try.func9, Try.ntmps9
    go_wp2_with (first
      | (go_at_call 16; ((with_reducible refine (rclamp_to _ _ _ _ _ _ _ _ _ _ HC.out _).mono ?_); rintro e W1 ⟨rfl, hb1⟩; have HF0 := (Fv.keep (Fv.new w 23 (h := h) (l := l) (c := c) (u := u) (m := m)) hb1); have hB1 := Lib.hid (bst ((Below.refl _ _).alloc (Nat.le_refl _) _) hb1); obtain ⟨⟨g0, g1, g2, g3, g4⟩, gf⟩ := HF0; have gf0 := gf 0 (by decide); have gf1 := gf 1 (by decide); have gf2 := gf 2 (by decide); have gf3 := gf 3 (by decide); have gf4 := gf 4 (by decide); clear gf hb1))
      | (go_at_call 17; ((with_reducible refine (hh _).mono ?_); clear hh; rintro e w4 ⟨rfl, rfl⟩))
      | (go_at_call 17; ((with_reducible refine (rhold_any _ _).mono ?_); rintro e w4 ⟨rfl, rfl⟩)))
    go_ret
    exact ⟨rfl, below_five hB1.out (Nat.le_refl _)⟩
  have e : nx c' u' m' n k = hm (hm n) := by unfold nx chg; rw [if_neg k1, if_neg k2, if_neg k3, Int.add_zero]
  rw [e]
  clear e
  generalize hm n = x at x0 x1 hh ⊢
  go_enter Try.func9, Try.ntmps9
  go_wp2_with (first
    | (go_at_call 16; ((with_reducible refine (rclamp_to _ _ _ _ _ _ _ _ _ _ HC.out _).mono ?_); rintro e W1 ⟨rfl, hb1⟩; have HF0 := (Fv.keep (Fv.new w 23 (h := h) (l := l) (c := c) (u := u) (m := m)) hb1); have hB1 := Lib.hid (bst ((Below.refl _ _).alloc (Nat.le_refl _) _) hb1); obtain ⟨⟨g0, g1, g2, g3, g4⟩, gf⟩ := HF0; have gf0 := gf 0 (by decide); have gf1 := gf 1 (by decide); have gf2 := gf 2 (by decide); have gf3 := gf 3 (by decide); have gf4 := gf 4 (by decide); clear gf hb1))
    | (go_at_call 17; ((with_reducible refine (hh _).mono ?_); clear hh; rintro e w4 ⟨rfl, rfl⟩))
    | (go_at_call 17; ((with_reducible refine (rhold_any _ _).mono ?_); rintro e w4 ⟨rfl, rfl⟩)))
  go_ret
  exact ⟨rfl, below_five hB1.out (Nat.le_refl _)⟩
end Go.Proofs.Ytppahbgoecldmaa
